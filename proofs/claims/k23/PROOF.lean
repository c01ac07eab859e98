import PyProof.Rows.All
import Wide.All
import OpenK.AllK
import Wide.FinOn
import Lean
import PyProof.EqAt
import PyProof.EqKinds
import PyProof.TupleCall
import PyProof.NeKinds
import PyProof.Rows.StrStrike
import PyProof.SumWalkG
import PyProof.StrCalls2
import PyProof.Rows.StrItems
import PyProof.Rows.StrJoin2
import PyProof.Truth
import PyProof.DictRoadsH
import PyProof.DictKeyH
import KE.KDictList
import KE.KMinKey
import KE.KLam
import KE.KNestM
import PyProof.MinMaxWalk
import PyProof.WalkInts
import KE.KRevIter
import PySem.Challenge.RW_gapweave_k23_counted
set_option Elab.async false
set_option linter.all false
set_option maxRecDepth 100000
namespace TK
open PySem
theorem qI{M:Model}{Γ:Ctx}{p:Pos}{t:Sem PySem.Fin}{fs:List Frame}{s s':Shared}{e:End}(h:Runs M Γ p t fs s e s'):s.toks<=s'.toks:=by
 induction h with
 |fresh _ ih=>exact Nat.le_trans (Nat.le_succ _) ih
 |call _ _ a b=>exact Nat.le_trans a b
 |segRet _ _ a b=>exact Nat.le_trans a b
 |segGen _ _ a b=>exact Nat.le_trans a b
 |resumeFresh _ _ _ _ a b=>exact Nat.le_trans a b
 |resumeSuspended _ _ _ _ a b=>exact Nat.le_trans a b
 |segSuspGen _ _ _ _ a b=>exact Nat.le_trans a b
 |_=>first|exact Nat.le_refl _|assumption
theorem D3{M:Model}{Γ:Ctx}{p:Pos}{g:Nat}{r:Resume}{s s':Shared}{res:GenResult}(h:Wakes M Γ p g r s res s'):s.toks<=s'.toks:=by
 unfold Wakes at h
 split at h
 ·exact h.elim
 ·split at h
  ·obtain⟨e,s1,a,_,_,rfl⟩:=h;have z:=qI a;exact z
  ·obtain⟨_,rfl⟩:=h;exact Nat.le_refl _
  ·obtain⟨_,rfl⟩:=h;exact Nat.le_refl _
 ·obtain⟨e,s1,a,_,_,rfl⟩:=h;have z:=qI a;exact z
 ·obtain⟨_,rfl⟩:=h;exact Nat.le_refl _
 ·obtain⟨_,rfl⟩:=h;exact Nat.le_refl _
theorem Q8{α:Type}{M:Model}{Γ:Ctx}{n:Nat}(t:Sem α):∀{Q:α->Pos->Shared->Prop} {E:Value->Pos->Shared->Prop} {p:Pos} {s:Shared},n<=s.toks →
  Sem.wp M Γ t (λa p s'=>n<=s'.toks->Q a p s') (λe p s'=>n<=s'.toks->E e p s') p s->Sem.wp M Γ t Q E p s:=by
 induction t with
 |pure a=>intro Q E p s hn h;exact h hn
 |raise e=>intro Q E p s hn h;exact h hn
 |unsupported w=>intro Q E p s hn h;exact h
 |finish e=>intro Q E p s hn h;exact h
 |rule t k ih=>intro Q E p s hn h;exact ih () hn h
 | «at» p' k ih=>intro Q E p s hn h;exact ih () hn h
 |load a q k ih=>intro Q E p s hn h;obtain⟨o,e,h⟩:=h;exact⟨o,e,ih o hn h⟩
 |update a q f k ih=>intro Q E p s hn h;exact⟨h.1,ih () hn h.2⟩
 |alloc o k ih=>intro Q E p s hn h;exact ih _ hn h
 |loadIfAlive a k ih=>intro Q E p s hn h;exact ih _ hn h
 |point l k ih=>intro Q E p s hn h;exact ih () hn h
 |register a k ih=>intro Q E p s hn h;exact h
 |fresh k ih=>intro Q E p s hn h;exact ih _ (Nat.le_succ_of_le hn) h
 |ask k ih=>intro Q E p s hn h;exact ih _ hn h
 |choose src m k ih=>intro Q E p s hn h;exact⟨h.1,ih _ hn h.2⟩
 |os q l k ih=>intro Q E p s hn h;exact ih _ hn h
 |call c hd g l k ih=>intro Q E p s hn h;obtain⟨r,s1,a,h⟩:=h;exact⟨r,s1,a,ih r (Nat.le_trans hn (qI a)) h⟩
 |handled own k ih=>intro Q E p s hn h;exact ih _ hn h
 |newGen c k ih=>intro Q E p s hn h;exact ih _ hn h
 |genState g k ih=>intro Q E p s hn h;obtain⟨st,e,h⟩:=h;exact⟨st,e,ih _ hn h⟩
 |resume g r l k ih=>intro Q E p s hn h;obtain⟨res,s1,a,h⟩:=h;exact⟨res,s1,a,ih _ (Nat.le_trans hn (D3 a)) h⟩
 |yield v g l k ih=>intro Q E p s hn h;exact h
 |stack k ih=>intro Q E p s hn h;exact ih _ hn h
 |fork c k ih=>intro Q E p s hn h;exact h
 |thread k ih=>intro Q E p s hn h;exact ih _ hn h
 |await a tk tm l k ih=>intro Q E p s hn h;exact h
theorem bY{α:Type}{M:Model}{A:Around}{t:Sem α}{Q:α->Shared->Prop}{E:Value->Shared->Prop}{s:Shared}{n:Nat}(hn:n<=s.toks)(h:wpAny M A t (λa s'=>n<=s'.toks->Q a s') (λe s'=>n<=s'.toks->E e s') s):wpAny M A t Q E s :=
 λΓ p hΓ=>Q8 t hn (h Γ p hΓ)
theorem E4{M:Model}{A:Around}{c:Code}{R:Result->Shared->Prop}{s:Shared}{n:Nat}(hn:n<=s.toks)(h:codeAny M A c (λr s'=>n<=s'.toks->R r s') s):codeAny M A c R s:=λΓ p hc hb=>by
 obtain⟨r,s1,a,h⟩:=h Γ p hc hb
 exact⟨r,s1,a,h (Nat.le_trans hn (qI a))⟩
end TK
set_option Elab.async false
set_option linter.all false
set_option maxRecDepth 100000
namespace L2
open PySem PySem.Spec PyProof.Rows
abbrev Key:=Sum Int Str
def zJ:Key->Value->Bool
 | .inl k,v=>Value.isInt k v
 | .inr x,v=>Value.isStrOf x v
def Xc(w:World):Key->Int
 | .inl k=>hashInt k
 | .inr x=>hashStr w x
theorem fK:∀{k:Key} {v:Value},zJ k v=true->(∃i t,k=Sum.inl i/\v=Value.int i t)\/(∃x t,k=Sum.inr x/\v=Value.str x t)
 | .inl i,v,h=>by
  obtain⟨t,e⟩:=Value.isInt_shape (k:=i) (v:=v) h
  exact .inl ⟨i,t,rfl,e⟩
 | .inr x,v,h=>by
  obtain⟨t,e⟩:=Value.isStrOf_shape (x:=x) (v:=v) h
  exact .inr ⟨x,t,rfl,e⟩
theorem Hh(i:Int)(t:Tok):zJ (.inl i) (.int i t)=true:=by simp[zJ,Value.isInt]
theorem Hg(x:Str)(t:Tok):zJ (.inr x) (.str x t)=true:=by simp[zJ,Value.isStrOf]
theorem PM(a b:Int):decide ((Sum.inl a:Key)=Sum.inl b)=(a==b):=by
 by_cases e:a=b
 ·subst e;simp
 ·have h:¬(Sum.inl a:Key)=Sum.inl b:=λq=>e (Sum.inl.inj q)
  rw[decide_eq_false h]
  exact(beq_eq_false_iff_ne.mpr e).symm
theorem PF(a b:Str):decide ((Sum.inr a:Key)=Sum.inr b)=decide (a=b):=by
 by_cases e:a=b
 ·subst e;simp
 ·have h:¬(Sum.inr a:Key)=Sum.inr b:=λq=>e (Sum.inr.inj q)
  rw[decide_eq_false h,decide_eq_false e]
theorem PL(a:Int)(b:Str):decide ((Sum.inl a:Key)=Sum.inr b)=false:=decide_eq_false (λq=>nomatch q)
theorem PK(a:Str)(b:Int):decide ((Sum.inr a:Key)=Sum.inl b)=false:=decide_eq_false (λq=>nomatch q)
def bV(prog:Program)(w:World):PySem.KeyKind prog w Key where
 is:=zJ
 hash:=Xc w
 inj:=λv a b ha hb=>by
  rcases fK ha with⟨i,t,rfl,rfl⟩|⟨x,t,rfl,rfl⟩
  ·rcases fK hb with⟨j,u,rfl,e⟩|⟨y,u,rfl,e⟩
   ·injection e with e1 _;rw[e1]
   ·exact nomatch e
  ·rcases fK hb with⟨j,u,rfl,e⟩|⟨y,u,rfl,e⟩
   ·exact nomatch e
   ·injection e with e1 _;rw[e1]
 byValue:=λk v h=>by
  rcases fK h with⟨i,t,rfl,rfl⟩|⟨x,t,rfl,rfl⟩<;>rfl
 pyHash:=λhv h=>by
  rcases fK hv with⟨i,t,rfl,rfl⟩|⟨x,t,rfl,rfl⟩
  ·exact wpAny_pyHash_int h
  ·exact wpAny_pyHash_str h
 eqBool:=λhu hv h=>by
  rcases fK hu with⟨i,t,rfl,rfl⟩|⟨x,t,rfl,rfl⟩
  ·rcases fK hv with⟨j,u,rfl,rfl⟩|⟨y,u,rfl,rfl⟩
   ·rw[PM]at h;exact wpAny_eqBool_int h
   ·rw[PL]at h;exact SeqAt.EqAt.int_str i t y u _ _ _ _ h
  ·rcases fK hv with⟨j,u,rfl,rfl⟩|⟨y,u,rfl,rfl⟩
   ·rw[PK]at h;exact SeqAt.EqAt.str_int x t j u _ _ _ _ h
   ·rw[PF]at h;exact wpAny_eqBool_str h
 «strs» :=λk x t v h=>by
  rcases fK h with⟨i,u,rfl,e⟩|⟨y,u,rfl,e⟩
  ·exact nomatch e
  ·injection e with e1 _
   subst e1
   cases v<;>rfl
theorem CV(prog:Program)(w:World)(i:Int)(t:Tok):(bV prog w).is (.inl i) (.int i t)=true:=Hh i t
theorem qc(prog:Program)(w:World)(x:Str)(t:Tok):(bV prog w).is (.inr x) (.str x t)=true:=Hg x t
end L2
namespace L2
open PySem PySem.Spec PyProof.Rows
inductive V where
 |iz|bl (b:Bool)|int (i:Int)|str (x:Str)|Gq (b:Array UInt8)|Ql (b:UInt64)|ref (a:Addr)|ty (n:String)
 deriving DecidableEq
def RelV:V->Value->Prop
 | .iz,u=>u=Value.none
 | .bl b,u=>u=Value.bool b
 | .int i,u=>∃t,u=Value.int i t
 | .str x,u=>∃t,u=Value.str x t
 | .Gq b,u=>∃t,u=Value.bytes b t
 | .Ql b,u=>∃t,u=Value.float b t
 | .ref a,u=>u=Value.ref a
 | .ty n,u=>u=Value.type n
abbrev Vals:List V->List Value->Prop:=Paired RelV
theorem Vals.length{xs:List V}{us:List Value}(r:Vals xs us):xs.length=us.length:=Paired.length r
theorem Vals.get:∀{xs:List V} {us:List Value} {i:Nat} {x:V},Vals xs us->xs[i]? =some x->∃u,us[i]? =some u/\RelV x u
 |_,_,_,_,.nil,e=>by simp at e
 |_,_,0,_,.cons r _,e=>by simp at e;subst e;exact⟨_,rfl,r⟩
 |_,_,i+1,x,.cons _ t,e=>by
  obtain⟨u,h1,h2⟩:=Vals.get (i:=i) (x:=x) t (by simpa using e)
  exact⟨u,by simpa using h1,h2⟩
theorem Vals.set{x:V}{u:Value}(r:RelV x u):∀{xs:List V} {us:List Value} (i:Nat),Vals xs us->Vals (xs.set i x) (us.set i u)
 |_,_,_,.nil=>.nil
 |_,_,0,.cons _ t=>.cons r t
 |_,_,i+1,.cons q t=>.cons q (Vals.set r i t)
theorem Vals.append:∀{xs ys:List V} {us ws:List Value},Vals xs us->Vals ys ws->Vals (xs++ys) (us++ws)
 |_,_,_,_,.nil,s=>s
 |_,_,_,_,.cons r t,s=>.cons r (Vals.append t s)
theorem Vals.none_of:∀{xs:List V} {us:List Value} {i:Nat},Vals xs us->xs[i]? =none->us[i]? =none:=λ{xs us i} r e=>by
 have h1:=r.length
 have h2:xs.length<=i:=List.getElem?_eq_none_iff.mp e
 exact List.getElem?_eq_none_iff.mpr (by omega)
def nh:Option V->Option Value->Prop
 |some v,some u=>RelV v u
 |none,none=>True
 |_,_=>False
def KV{κ:Type}:List (κ×V)->List (κ×Value)->Prop:=Paired λ(p:κ×V) (q:κ×Value)=>p.1=q.1/\RelV p.2 q.2
def kV:Key->V
 | .inl i=>.int i
 | .inr x=>.str x
inductive HO where
 |lst (xs:List V)
 |tup (xs:List V)
 |dK (kvs:List (Key×V))|dT (kvs:List (List Key×V))
 |set (S:Int->Bool) (n:Nat)
 |ins (C dx:Addr) (fs:List (Str×V))
 |own (x:Addr)
 |xd (fs:List (Str×V))
 |met (f x:Addr)
 |Uj (lo hi:Int)
 |EV (o:Obj) (u:HO)
 |MF (ps:Array Value)
 |ext (φ:Heap->Prop)
abbrev Hp:=Addr->Option HO
def upd(H:Hp)(a:Addr)(o:HO):Hp:=λb=>if b=a then some o else H b
theorem ah{H:Hp}{a:Addr}{o:HO}:upd H a o a=some o:=by unfold upd;rw[if_pos rfl]
theorem ao{H:Hp}{a b:Addr}{o:HO}(h:b≠a):upd H a o b=H b:=by unfold upd;rw[if_neg h]
theorem pZ{H:Hp}{a b:Addr}{o u:HO}(h:H a=some o)(h':H b=some u)(d:o≠u):a≠b:=by
 intro e;subst e;rw[h]at h';exact d (Option.some.inj h')
theorem aP{H:Hp}{a b:Addr}{o:HO}(h:H a=some o)(h':H b=none):a≠b:=by
 intro e;subst e;rw[h]at h';cases h'
section
variable(P:Program)(w:World)
def bQ(H:Hp)(h:Heap)(a:Addr):HO->Prop
 | .lst xs=>xs.length<=sizeLine/\∃(its:List Value) (n:Nat),Vals xs its/\h.get? a=some { cls:=.type "list",data:=.seq its.toArray n }
 | .tup xs=>xs.length<=sizeLine/\∃its:List Value,Vals xs its/\IsTup h a its.toArray
 | .dK kvs=>kvs.length<=sizeLine/\(a==sysModules)=false/\∃vs,KV kvs vs/\h.DictOf (bV P w) a vs
 | .dT kvs=>kvs.length<=sizeLine/\(a==sysModules)=false/\∃xs:List (List Key×Addr×Value),
   Paired (λ(p:List Key×V) (q:List Key×Addr×Value)=>p.1=q.1/\H q.2.1=some (.tup (p.1.map kV))/\RelV p.2 q.2.2) kvs xs ∧
   ∃o es ep,h.get? a=some o/\o.ExactDict/\o.data= .dict es ep/\es.toList=xs.map (entryOfKey (tupleKind (bV P w)))/\(xs.map (·.1)).Nodup
 | .set S n=>h.SetOf (intKind P w) a S n
 | .ins C dx fs=>H dx=some (.own a)/\fs.length<=1000/\dx≠a/\h.get? a=some (PySem.W.instObj C dx) ∧
   ∃mA,h.Ns1 dx mA/\(∀f,nh (fs.lookup f) (mA f))/\PySem.Within mA (fs.map (·.1))
 | .own _=>∃o,h.get? a=some o
 | .xd fs=>∃mA,h.Ns1 a mA/\∀f,nh (fs.lookup f) (mA f)
 | .Uj lo hi=>∃t u v,h.get? a=some { cls:=.type "range",data:=.fields #[.int lo t,.int hi u,.int 1 v] }
 | .EV o u=>h.get? a=some o/\bQ H h a u
 | .MF ps=>h.get? a=some { cls:=.none,data:=.fields ps }
 | .met f x=>h.get? a=some (PySem.W.methodObj (.ref f) (.ref x))
 | .ext φ=>φ h/\(∃o,h.get? a=some o)/\∀h1 h2:Heap,φ h1->(∀o,h1.get? a=some o->h2.get? a=some o)->φ h2
def mO(H:Hp)(h:Heap):Prop:=∀a o,H a=some o->bQ P w H h a o
end
section
variable{P:Program}{w:World}{H H':Hp}{h h':Heap}{a:Addr}{o:HO}
theorem bQ.lt(x:bQ P w H h a o):a<h.objs.size:=by
 cases o with
 |lst xs=>obtain⟨_,_,_,_,e⟩:=x;exact Heap.lt_size e
 |tup xs=>obtain⟨_,_,_,p⟩:=x;exact p.lt
 |dK kvs=>obtain⟨_,_,_,_,o,_,_,e,_⟩:=x;exact Heap.lt_size e
 |dT kvs=>obtain⟨_,_,_,_,o,_,_,e,_⟩:=x;exact Heap.lt_size e
 |set S n=>obtain⟨o,_,_,_,e,_⟩:=x;exact Heap.lt_size e
 |ins C dx fs=>obtain⟨_,_,_,e,_⟩:=x;exact Heap.lt_size e
 |own y=>obtain⟨_,e⟩:=x;exact Heap.lt_size e
 |xd fs=>obtain⟨_,⟨_,_,_,e,_⟩,_⟩:=x;exact Heap.lt_size e
 |Uj lo hi=>obtain⟨_,_,_,e⟩:=x;exact Heap.lt_size e
 |EV ob u=>obtain⟨e,_⟩:=x;exact Heap.lt_size e
 |MF ps=>exact Heap.lt_size (show h.get? a=some _ from x)
 |met f y=>exact Heap.lt_size (show h.get? a=some _ from x)
 |ext φ=>obtain⟨_,⟨_,e⟩,_⟩:=x;exact Heap.lt_size e
theorem Paired.dP{α β:Type}{F G:α->β->Prop}:∀{l₁:List α} {l₂:List β},Paired F l₁ l₂->(∀a b,F a b->G a b)->Paired G l₁ l₂
 |_,_,.nil,_=>.nil
 |_,_,.cons r t,f=>.cons (f _ _ r) (Paired.dP t f)
theorem bQ.stay(x:bQ P w H h a o)(k:∀b u,(b=a\/H b=some (.own a))->h.get? b=some u->h'.get? b=some u)
  (ho:∀b,H b=some (.own a)->H' b=some (.own a)) (ht:∀b xs,H b=some (.tup xs)->H' b=some (.tup xs)):bQ P w H' h' a o:=by
 induction o with
 |lst xs=>obtain⟨z,its,n,r,e⟩:=x;exact⟨z,its,n,r,k _ _ (.inl rfl) e⟩
 |tup xs=>obtain⟨z,its,r,ob,e,c⟩:=x;exact⟨z,its,r,ob,k _ _ (.inl rfl) e,c⟩
 |dK kvs=>obtain⟨z,y,vs,r,ob,es,ep,e,c⟩:=x;exact⟨z,y,vs,r,ob,es,ep,k _ _ (.inl rfl) e,c⟩
 |dT kvs =>
  obtain⟨z,y,xs,r,ob,es,ep,e,c⟩:=x
  exact⟨z,y,xs,Paired.dP r λp q z=>⟨z.1,ht _ _ z.2.1,z.2.2⟩,ob,es,ep,k _ _ (.inl rfl) e,c⟩
 |set S n=>obtain⟨ob,es,ep,t,e,c⟩:=x;exact⟨ob,es,ep,t,k _ _ (.inl rfl) e,c⟩
 |ins C dx fs =>
  obtain⟨d,z,ne,e,mA,⟨od,es,ep,e2,c⟩,r⟩:=x
  exact⟨ho _ d,z,ne,k _ _ (.inl rfl) e,mA,⟨od,es,ep,k _ _ (.inr d) e2,c⟩,r⟩
 |own y=>obtain⟨ob,e⟩:=x;exact⟨ob,k _ _ (.inl rfl) e⟩
 |xd fs=>obtain⟨mA,⟨od,es,ep,e,c⟩,r⟩:=x;exact⟨mA,⟨od,es,ep,k _ _ (.inl rfl) e,c⟩,r⟩
 |Uj lo hi=>obtain⟨t,u,v,e⟩:=x;exact⟨t,u,v,k _ _ (.inl rfl) e⟩
 |EV ob u ih=>obtain⟨e,q⟩:=x;exact⟨k _ _ (.inl rfl) e,ih q⟩
 |MF ps =>
  have e:h.get? a=some { cls:=.none,data:=.fields ps }:=x
  show h'.get? a=some { cls:=.none,data:=.fields ps }
  exact k a _ (.inl rfl) e
 |met f y =>
  have e:h.get? a=some (PySem.W.methodObj (.ref f) (.ref y)):=x
  show h'.get? a=some (PySem.W.methodObj (.ref f) (.ref y))
  exact k a _ (.inl rfl) e
 |ext φ=>obtain⟨p,⟨o,e⟩,st⟩:=x;exact⟨st _ _ p λo q=>k _ _ (.inl rfl) q,⟨o,k _ _ (.inl rfl) e⟩,st⟩
theorem mO.lt(x:mO P w H h)(e:H a=some o):a<h.objs.size:=(x a o e).lt
theorem mO.fresh(x:mO P w H h)(e:h.objs.size<=a):H a=none:=by
 cases q:H a with
 |none=>rfl
 |some u=>exact absurd (Nat.lt_of_lt_of_le (x.lt q) e) (Nat.lt_irrefl _)
theorem mO.kept(x:mO P w H h)(k:∀b u,h.get? b=some u->h'.get? b=some u):mO P w H h':=λa o e =>
 (x a o e).stay (λb u _ q=>k b u q) (λ_ q=>q) λ_ _ q=>q
theorem mO.laid(x:mO P w H h)(k:∀b u,h.get? b=some u->h'.get? b=some u)(hp:h.objs.size<=a)(new:bQ P w (upd H a o) h' a o):mO P w (upd H a o) h':=λb u e=>by
 have hn:=x.fresh hp
 by_cases hb:b=a
 ·subst hb;rw[ah]at e;cases e;exact new
 ·rw[ao hb]at e
  exact(x b u e).stay (λc v _ q=>k c v q) (λc q=>by rw[ao (aP q hn)];exact q) λc xs q=>by rw[ao (aP q hn)];exact q
end
def Rd(H:Hp)(a:Addr)(u:HO):Prop:=H a=some u\/∃o,H a=some (.EV o u)
theorem Rd.ok{P:Program}{w:World}{H:Hp}{h:Heap}{a:Addr}{u:HO}(r:Rd H a u)(x:mO P w H h):bQ P w H h a u:=by
 rcases r with r|⟨o,r⟩
 ·exact x a u r
 ·obtain⟨_,q⟩:=x a _ r
  exact q
def TN:Option HO->Prop
 |some (.lst _)=>True
 |some (.dK _)=>True
 |some (.dT _)=>True
 |some (.set _ _)=>True
 |some (.ins _ _ _)=>True
 |some (.ext _)=>True
 |_=>False
section
variable{P:Program}{w:World}{H:Hp}{h h':Heap}{x e:Addr}{o':HO}
theorem mO.write(ok:mO P w H h)(mu:TN (H x))(he:e=x\/H e=some (.own x))(k:∀b u,b≠e->h.get? b=some u->h'.get? b=some u)(QW:∃u,h'.get? e=some u)
  (new:bQ P w (upd H x o') h' x o'):mO P w (upd H x o') h':=λb u q=>by
 have RO:∀c y,H c=some (.own y)->c≠x:=λc y r z=>by subst z;rw[r]at mu;exact mu
 have WR:∀c xs,H c=some (.tup xs)->c≠x:=λc xs r z=>by subst z;rw[r]at mu;exact mu
 by_cases hb:b=x
 ·subst hb;rw[ah]at q;cases q;exact new
 ·rw[ao hb]at q
  by_cases JQ:b=e
  ·have q':H b=some (.own x):=by
    rcases he with z|z
    ·exact absurd (JQ.trans z) hb
    ·rw[JQ];exact z
   rw[q]at q';cases q'
   obtain⟨v,hv⟩:=QW
   exact⟨v,by rw[JQ];exact hv⟩
  ·refine(ok b u q).stay (λc v hc r=>k c v ?_ r) (λc r=>by rw[ao (RO c b r)];exact r) λc xs r=>by rw[ao (WR c xs r)];exact r
   rcases hc with rfl|hc
   ·exact JQ
   ·rintro rfl
    rcases he with z|z
    ·exact RO c b hc z
    ·rw[hc]at z;cases z;exact hb rfl
end
structure Un(fs ex:List Addr)(H H':Hp)(h h':Heap):Prop where
 keep:∀b o,h.get? b=some o->H b=none->b∉fs->b∉ex->h'.get? b=some o
 slot:∀b o,h.get? b=some o->H b=none->b∈fs->b∉ex->∃sl,h'.get? b=some { o with slots:=sl }
 free:∀b o,h.get? b=some o->H b=none->b∉ex->H' b=none
 there:∀b o,h.get? b=some o->b∉ex->∃o',h'.get? b=some o'
 tups:∀b xs,H b=some (.tup xs)->H' b=some (.tup xs)
 r9:∀b o u,H b=some (.EV o u)->H' b=some (.EV o u)
 sJ:∀b ps,H b=some (.MF ps)->∃more,H' b=some (.MF (ps++more))
section
variable{fs fs' ex ex':List Addr}{H H1 H2:Hp}{h h1 h2 h':Heap}{a x e:Addr}{o:HO}
theorem Un.any(u:Un fs ex H H1 h h1){b:Addr}{ob:Obj}(q:h.get? b=some ob)(n:H b=none)(hx:b∉ex):∃sl,h1.get? b=some { ob with slots:=sl }:=by
 by_cases hb:b∈fs
 ·exact u.slot b ob q n hb hx
 ·exact⟨ob.slots,u.keep b ob q n hb hx⟩
theorem Un.kept(k:∀b u,h.get? b=some u->h'.get? b=some u):Un fs ex H H h h' :=
 ⟨λb ob q _ _ _=>k b ob q,λb ob q _ _ _=>⟨ob.slots,k b ob q⟩,λ_ _ _ n _=>n,λb ob q _=>⟨ob,k b ob q⟩,λ_ _ q=>q,λ_ _ _ q=>q,λ_ ps q=>⟨#[],by rw[q];simp⟩⟩
theorem Un.refl:Un fs ex H H h h:=Un.kept λ_ _ q=>q
theorem Un.laid(k:∀b u,h.get? b=some u->h'.get? b=some u)(hp:h.objs.size<=a)(hn:H a=none):Un fs ex H (upd H a o) h h' where
 keep:=λb u q _ _ _=>k b u q
 slot:=λb u q _ _ _=>⟨u.slots,k b u q⟩
 free:=λb u q n _=>by rw[ao (Nat.ne_of_lt (Nat.lt_of_lt_of_le (Heap.lt_size q) hp))];exact n
 there:=λb u q _=>⟨u,k b u q⟩
 tups:=λb xs q=>by rw[ao (aP q hn)];exact q
 r9:=λb u xs q=>by rw[ao (aP q hn)];exact q
 sJ:=λb ps q=>⟨#[],by rw[ao (aP q hn),q];simp⟩
theorem Un.write(mu:TN (H x))(he:e=x\/H e=some (.own x))(k:∀b u,b≠e->h.get? b=some u->h'.get? b=some u)(QW:∃u,h'.get? e=some u):Un fs ex H (upd H x o) h h':=by
 have hx:∀b,H b=none->b≠x:=λb n z=>by subst z;rw[n]at mu;exact mu
 have hb:∀b,H b=none->b≠e:=λb n z=>by
  subst z
  rcases he with r|r
  ·exact hx b n r
  ·rw[n]at r;cases r
 have hm:∀b u,H b=some u->¬TN (some u)->b≠x:=λb u q nm z=>by subst z;rw[q]at mu;exact nm mu
 refine⟨λb u q n _ _=>k b u (hb b n) q,λb u q n _ _=>⟨u.slots,k b u (hb b n) q⟩,λb u q n _=>by rw[ao (hx b n)];exact n,λb u q _=>?_,
  λb xs q=>by rw[ao (hm b _ q λz=>z)];exact q,λb u xs q=>by rw[ao (hm b _ q λz=>z)];exact q,λb ps q=>⟨#[],by rw[ao (hm b _ q λz=>z),q];simp⟩⟩
 by_cases JQ:b=e
 ·subst JQ;exact QW
 ·exact⟨u,k b u JQ q⟩
end
def Ud(h:Heap)(H:Hp):List Addr:=(List.range h.objs.size).filter λa=>(H a).isSome
def yN(h:Heap)(H:Hp):Heap:=PySem.W.hideAll h (Ud h H)
theorem Hq(h:Heap)(H:Hp):(yN h H).objs.size=h.objs.size:=PySem.W.hideAll_size _ _
theorem JO{h:Heap}{H:Hp}{b:Addr}{o:Obj}(e:h.get? b=some o)(n:H b=none):(yN h H).get? b=some o :=
 PySem.W.hideAll_get _ e λhm=>by
  have q:(H b).isSome=true:=(List.mem_filter.mp hm).2
  rw[n]at q;simp at q
theorem Lz{h:Heap}{H:Hp}{b:Addr}{o:Obj}(e:(yN h H).get? b=some o):h.get? b=some o/\H b=none:=by
 have e':h.get? b=some o:=PySem.W.of_hideAll (Ud h H) e
 refine⟨e',?_⟩
 cases q:H b with
 |none=>rfl
 |some x =>
  have hm:b∈Ud h H:=List.mem_filter.mpr ⟨List.mem_range.mpr (Heap.lt_size e'),by simp[q]⟩
  have z:(yN h H).get? b=none:=PySem.W.hideAll_none (Ud h H) hm
  rw[z]at e;cases e
end L2
namespace L2
open PySem PySem.Spec PyProof.Rows
structure Mod(K:PySem.W.Frag)(mg:Str->Option Value)(base:Heap):Prop where
 MW:K.In base
 glob:base.Ns mainGlobals mg
 blt:∃mb,base.Ns builtinsNs mb/\∀x:Str,x≠ "__name__" ->mb x=bootBuiltins x
 nolimit:base.NoLimit
structure Cx where
 prog:Program
 w:World
 K:PySem.W.Frag
 mg:Str->Option Value
 base:Heap
 A:Around
 N:List Str
 s₀:Shared
 H₀:Hp
 env:Env
 outer:List Env
 stack:List Env
 ex:List Addr
 fn:Str->Bool
 calm:Bool
 pn:List (Addr×Obj)
 xe:Value->Shared->Prop
def frs(l:List Env):List Addr:=l.filterMap (·.frame)
abbrev Cx.fs(X:Cx):List Addr:=frs X.outer
def UL(sc:Scope)(x:Str):Prop:=sc.names.lookup x=some .local\/sc.names.lookup x=some .cell\/sc.names.lookup x=some .free
def Loc(sc:Scope)(x:Str):Prop:=sc.names.lookup x=some .local\/sc.names.lookup x=some .cell
def Look(env:Env)(h:Heap)(m:Str->Option Value)(x:Str)(u:Value):Prop :=
 (env.kindOf x=some .local/\m x=some u)\/((env.kindOf x=some .cell\/env.kindOf x=some .free)/\∃c,env.cells.lookup x=some c/\h.IsCell c (some u))
def E9(mg:Str->Option Value)(n:Nat):Prop:=∀v u,mg "GAP" =some (.str v u)->u<n/\u≠0
theorem E9.mono{mg:Str->Option Value}{n m:Nat}(h:E9 mg n)(l:n<=m):E9 mg m:=λv u e=>⟨Nat.lt_of_lt_of_le (h v u e).1 l,(h v u e).2⟩
structure Cx.Ok(X:Cx):Prop where
 mod:Mod X.K X.mg X.base
 kind:X.env.scope.kind= .function
 glob:X.env.globals=mainGlobals
 blt:X.env.builtins=builtinsNs
 above:X.s₀.heap.objs.size<=X.env.locals
 inj:∀x y c,X.env.cells.lookup x=some c->X.env.cells.lookup y=some c->x=y
 has:∀x,(X.env.kindOf x=some .cell\/X.env.kindOf x=some .free)->∃c,X.env.cells.lookup x=some c
 Mr:∀x c,X.fn x=true->X.env.cells.lookup x=some c->X.s₀.heap.objs.size<=c
 hd:X.calm=true->X.A.handled=none
 frames:X.A.frames=some X.stack
 stk:X.stack=X.outer\/(X.stack=X.env::X.outer/\X.env.frame=some X.env.locals)
 UI:∀b∈X.ex,b≠X.env.locals/\∀x c,X.env.cells.lookup x=some c->c≠b
 bs:∀b o,X.base.get? b=some o->X.s₀.heap.get? b=some o/\X.H₀ b=none
 Kv:X.base.objs.size<=X.s₀.heap.objs.size
 EA:∀b o,X.base.get? b=some o->b∉X.ex
 Ht:∀b∈X.ex,b∉X.fs
 rZ:X.s₀.heap.FunFrames X.base X.outer
 Mi:∀b∈X.fs,X.H₀ b=none
 tk:E9 X.mg X.s₀.toks
structure Inv(X:Cx)(pins:List (Addr×Obj))(σ:List (Option V))(H:Hp)(s:Shared):Prop where
 ok:X.Ok
 os:s.os=X.s₀.os
 bare:AllBare s.gens
 base:Un X.fs X.ex X.H₀ H X.s₀.heap s.heap
 loc:∃m,s.heap.Ns X.env.locals m/\∀(i:Nat) (x:Str) (v:V),X.N[i]? =some x->σ[i]? =some (some v)->UL X.env.scope x->∃u,RelV v u/\Look X.env s.heap m x u
 cell:∀x c,X.env.cells.lookup x=some c->∃v,s.heap.IsCell c v
 free:H X.env.locals=none
 kc:∀x c,X.env.cells.lookup x=some c->H c=none
 pin:∀p∈X.pn++pins,s.heap.get? p.1=some p.2/\H p.1=none/\p.1≠X.env.locals/\p.1∉X.fs/\∀v,p.2.data≠ .cell v
 hok:mO X.prog X.w H s.heap
 len:σ.length=X.N.length
 up:X.s₀.toks<=s.toks
section
variable{X:Cx}{pins:List (Addr×Obj)}{σ:List (Option V)}{H H':Hp}{s:Shared}{h':Heap}
theorem Cx.Ok.WT(ok:X.Ok){b:Addr}{o:Obj}(e:X.base.get? b=some o):b∉X.fs:=λhb=>by
 have:=(ok.rZ.mem hb).1
 rw[e]at this;cases this
theorem Inv.tk(I:Inv X pins σ H s):E9 X.mg s.toks:=I.ok.tk.mono I.up
theorem Inv.bs(I:Inv X pins σ H s):∀b o,X.base.get? b=some o->s.heap.get? b=some o/\H b=none:=λb o e =>
 ⟨I.base.keep b o (I.ok.bs b o e).1 (I.ok.bs b o e).2 (I.ok.WT e) (I.ok.EA b o e),I.base.free b o (I.ok.bs b o e).1 (I.ok.bs b o e).2 (I.ok.EA b o e)⟩
theorem Inv.bk(I:Inv X pins σ H s):∀b o,X.base.get? b=some o->s.heap.get? b=some o:=λb o e=>(I.bs b o e).1
theorem Inv.mod(I:Inv X pins σ H s):Mod X.K X.mg X.base:=I.ok.mod
theorem Inv.pI(I:Inv X pins σ H s):X.K.In s.heap:=I.ok.mod.MW.keeps I.bk
theorem Inv.nolimit(I:Inv X pins σ H s):s.heap.NoLimit:=I.ok.mod.nolimit.keeps I.bk
theorem Inv.lt(I:Inv X pins σ H s):X.env.locals<s.heap.objs.size:=let ⟨_,hn,_⟩:=I.loc;hn.lt
theorem Inv.sz(I:Inv X pins σ H s):X.s₀.heap.objs.size<=s.heap.objs.size:=Nat.le_trans I.ok.above (Nat.le_of_lt I.lt)
theorem Inv.WS(I:Inv X pins σ H s){a:Addr}(h:s.heap.objs.size<=a):a∉X.fs:=λhb=>by
 obtain⟨_,o,ho,_⟩:=I.ok.rZ.mem hb
 exact absurd (Nat.lt_of_lt_of_le (Heap.lt_size ho) (Nat.le_trans I.sz h)) (Nat.lt_irrefl _)
theorem Inv.Nd(I:Inv X pins σ H s):∀x c,X.env.cells.lookup x=some c->c≠X.env.locals:=λx c e z=>by
 obtain⟨v,o,ho,hd⟩:=I.cell x c e
 obtain⟨m,⟨o',es,ep,ho',hd',_⟩,_⟩:=I.loc
 rw[z,ho']at ho;cases ho;rw[hd']at hd;cases hd
theorem Inv.rZ(I:Inv X pins σ H s):s.heap.FunFrames X.base X.outer:=by
 have all:∀(l:List Env),(∀b∈frs l,b∈X.fs)->X.s₀.heap.FunFrames X.base l->s.heap.FunFrames X.base l:=by
  intro l
  induction l with
  |nil=>intro _ _;trivial
  |cons env r ih =>
   intro hs hl
   obtain⟨hk,⟨L,o,hf,hn,ho,hd⟩,hr⟩:=hl
   have hL:L∈X.fs:=hs L (by unfold frs;rw[List.filterMap_cons,hf];exact List.mem_cons_self)
   obtain⟨sl,e⟩:=I.base.slot L o ho (I.ok.Mi L hL) hL λz=>I.ok.Ht L z hL
   exact⟨hk,⟨L,_,hf,hn,e,hd⟩,ih (λb hb=>hs b (by unfold frs;rw[List.filterMap_cons,hf];exact List.mem_cons_of_mem _ hb)) hr⟩
 exact all X.outer (λ_ hb=>hb) I.ok.rZ
theorem Inv.stack(I:Inv X pins σ H s):s.heap.FunFrames X.base X.stack:=by
 rcases I.ok.stk with e|⟨e,hf⟩
 ·rw[e];exact I.rZ
 ·rw[e]
  obtain⟨m,hn,_⟩:=I.loc
  refine .cons (by rw[I.ok.kind];decide) hf hn ?_ I.rZ
  exact Heap.get?_none_of_le (Nat.le_trans I.ok.Kv I.ok.above)
theorem Inv.rH(I:Inv X pins σ H s):∀b∈frs X.stack,b∈X.env.locals::X.fs:=λb hb=>by
 rcases I.ok.stk with e|⟨e,hf⟩
 ·rw[e]at hb;exact List.mem_cons_of_mem _ hb
 ·rw[e]at hb
  unfold frs at hb
  rw[List.filterMap_cons,hf]at hb
  exact hb
theorem Inv.Ai(I:Inv X pins σ H s):∀b∈frs X.stack,H b=none:=λb hb=>by
 rcases List.mem_cons.mp (I.rH b hb)with e|hb
 ·rw[e];exact I.free
 ·obtain⟨_,o,ho,_⟩:=I.ok.rZ.mem hb
  exact I.base.free b o ho (I.ok.Mi b hb) λz=>I.ok.Ht b z hb
theorem Inv.step{g':Array GenState}{t':Nat}{d':Drawn}{ch:List Addr}(I:Inv X pins σ H s)
  (hch:∀b∈ch,(b∈X.ex\/X.s₀.heap.objs.size<=b)/\b≠X.env.locals/\(∀x c,X.env.cells.lookup x=some c->c≠b)/\∀p∈X.pn++pins,p.1≠b)
  (keep:∀b o,b≠X.env.locals->b∉X.fs->b∉ch->s.heap.get? b=some o->H b=none->h'.get? b=some o)
  (slot:∀b o,b≠X.env.locals->b∈X.fs->b∉ch->s.heap.get? b=some o->H b=none->∃sl,h'.get? b=some { o with slots:=sl }) (free:∀b o,b∉ch->s.heap.get? b=some o->H b=none->H' b=none)
  (there:∀b o,b∉ch->s.heap.get? b=some o->∃o',h'.get? b=some o')
  (tups:∀b xs,H b=some (.tup xs)->H' b=some (.tup xs)) (r9:∀b o u,H b=some (.EV o u)->H' b=some (.EV o u)) (sJ:∀b ps,H b=some (.MF ps)->∃more,H' b=some (.MF (ps++more)))
  (ns:∀m,s.heap.Ns X.env.locals m->h'.Ns X.env.locals m) (hok:mO X.prog X.w H' h') (hg:AllBare g') (ht:X.s₀.toks<=t') :
  Inv X pins σ H' { s with heap:=h',gens:=g',drawn:=d',toks:=t' }:=by
 have Zm:∀b o,X.s₀.heap.get? b=some o->b≠X.env.locals:=λb o e=>Nat.ne_of_lt (Nat.lt_of_lt_of_le (Heap.lt_size e) I.ok.above)
 have Uo:∀b o,X.s₀.heap.get? b=some o->b∉X.ex->b∉ch:=λb o e hx hb=>by
  rcases(hch b hb).1 with z|z
  ·exact hx z
  ·exact absurd (Nat.lt_of_lt_of_le (Heap.lt_size e) z) (Nat.lt_irrefl _)
 have cellK:∀x c,X.env.cells.lookup x=some c->∀v,s.heap.IsCell c v->h'.IsCell c v:=λx c e v ⟨o,ho,hd⟩=>by
  have MT:c∉ch:=λz=>(hch c z).2.2.1 x c e rfl
  by_cases hc:c∈X.fs
  ·obtain⟨sl,q⟩:=slot c o (I.Nd x c e) hc MT ho (I.kc x c e)
   exact⟨_,q,hd⟩
  ·exact⟨o,keep c o (I.Nd x c e) hc MT ho (I.kc x c e),hd⟩
 refine⟨I.ok,I.os,hg,⟨λb o e n hb hx=>?_,λb o e n hb hx=>?_,λb o e n hx=>?_,λb o e hx=>?_,λb xs e=>tups b xs (I.base.tups b xs e),λb o xs e=>r9 b o xs (I.base.r9 b o xs e),λb ps e=>?_⟩,?_,λx c e=>?_,?_,λx c e=>?_,λp hp=>?_,hok,I.len,ht⟩
 ·exact keep b o (Zm b o e) hb (Uo b o e hx) (I.base.keep b o e n hb hx) (I.base.free b o e n hx)
 ·obtain⟨sl,e1⟩:=I.base.slot b o e n hb hx
  obtain⟨HU,e2⟩:=slot b _ (Zm b o e) hb (Uo b o e hx) e1 (I.base.free b o e n hx)
  exact⟨HU,e2⟩
 ·obtain⟨o',e1⟩:=I.base.there b o e hx
  exact free b o' (Uo b o e hx) e1 (I.base.free b o e n hx)
 ·obtain⟨o',e1⟩:=I.base.there b o e hx
  exact there b o' (Uo b o e hx) e1
 ·obtain⟨m1,e1⟩:=I.base.sJ b ps e
  obtain⟨m2,e2⟩:=sJ b _ e1
  exact⟨m1++m2,by rw[e2,Array.append_assoc]⟩
 ·obtain⟨m,hn,hl⟩:=I.loc
  refine⟨m,ns m hn,λi x v e1 e2 e3=>?_⟩
  obtain⟨u,r,l⟩:=hl i x v e1 e2 e3
  refine⟨u,r,?_⟩
  rcases l with l|⟨k,c,e,z⟩
  ·exact .inl l
  ·exact .inr ⟨k,c,e,cellK x c e _ z⟩
 ·obtain⟨v,z⟩:=I.cell x c e
  exact⟨v,cellK x c e v z⟩
 ·obtain⟨m,⟨o,_,_,ho,_⟩,_⟩:=I.loc
  exact free _ o (λz=>(hch _ z).2.1 rfl) ho I.free
 ·obtain⟨v,o,ho,hd⟩:=I.cell x c e
  exact free c o (λz=>(hch c z).2.2.1 x c e rfl) ho (I.kc x c e)
 ·obtain⟨e,n,ne,nf,d⟩:=I.pin p hp
  have MT:p.1∉ch:=λz=>(hch p.1 z).2.2.2 p hp rfl
  exact⟨keep p.1 p.2 ne nf MT e n,free p.1 p.2 MT e n,ne,nf,d⟩
theorem Inv.un{t':Nat}(I:Inv X pins σ H s)(u:Un X.fs [] H H' s.heap h')(hok:mO X.prog X.w H' h')(ht:s.toks<=t':=by first|exact Nat.le_refl _|exact Nat.le_succ _|assumption|omega):Inv X pins σ H' { s with heap:=h',toks:=t' }:=by
 obtain⟨m,⟨o,es,ep,ho,r⟩,_⟩:=id I.loc
 obtain⟨sl,hL⟩:=u.any ho I.free (by simp)
 exact I.step (g':=s.gens) (d':=s.drawn) (ch:=[]) (λ_ z=>nomatch z) (λb o _ hb _ e n=>u.keep b o e n hb (by simp)) (λb o _ hb _ e n=>u.slot b o e n hb (by simp)) (λb o _ e n=>u.free b o e n (by simp)) (λb o _ e=>u.there b o e (by simp)) u.tups u.r9 u.sJ (λm' hm=>by
  obtain⟨o',es',YC,ho',r'⟩:=hm
  rw[ho]at ho';cases ho'
  exact⟨_,es',YC,hL,r'⟩) hok I.bare (Nat.le_trans I.up ht)
theorem Inv.call{g':Array GenState}{t':Nat}{d':Drawn}{ch:List Addr}(I:Inv X pins σ H s)(u:Un (frs X.stack) ch H H' s.heap h')(hok:mO X.prog X.w H' h')(hg:AllBare g')
  (hch:∀b∈ch,(b∈X.ex\/X.s₀.heap.objs.size<=b)/\b≠X.env.locals/\(∀x c,X.env.cells.lookup x=some c->c≠b)/\∀p∈X.pn++pins,p.1≠b) (ht:X.s₀.toks<=t') :
  Inv X pins σ H' { s with heap:=h',gens:=g',drawn:=d',toks:=t' }:=by
 obtain⟨m,⟨o,es,ep,ho,r⟩,_⟩:=id I.loc
 obtain⟨sl,hL⟩:=u.any ho I.free λz=>(hch _ z).2.1 rfl
 exact I.step (ch:=ch) hch (λb o hL hb hc e n=>u.keep b o e n (λz=>(List.mem_cons.mp (I.rH b z)).elim hL hb) hc) (λb o _ _ hc e n=>u.any e n hc) (λb o hc e n=>u.free b o e n hc) (λb o hc e=>u.there b o e hc) u.tups u.r9 u.sJ (λm' hm=>by
  obtain⟨o',es',YC,ho',r'⟩:=hm
  rw[ho]at ho';cases ho'
  exact⟨_,es',YC,hL,r'⟩) hok hg ht
theorem Inv.turned{t':Nat}{it:Addr}(I:Inv X pins σ H s)(k:∀b o,b≠it->s.heap.get? b=some o->h'.get? b=some o)(hn:H it=none)(hL:it≠X.env.locals)
  (h1:it∈X.ex\/X.s₀.heap.objs.size<=it) (h2:∀x c,X.env.cells.lookup x=some c->c≠it) (h3:∀p∈X.pn++pins,p.1≠it) (ht:s.toks<=t':=by first|exact Nat.le_refl _|exact Nat.le_succ _|assumption|omega):Inv X pins σ H { s with heap:=h',toks:=t' }:=by
 have Zl:∀b u,H b=some u->b≠it:=λb u e z=>by rw[z,hn]at e;cases e
 refine I.step (g':=s.gens) (d':=s.drawn) (ch:=[it]) (λb hb=>?_) (λb o _ _ hc e _=>k b o (λz=>hc (by simp[z])) e) (λb o _ _ hc e _=>⟨o.slots,k b o (λz=>hc (by simp[z])) e⟩) (λ_ _ _ _ n=>n)
  (λb o hc e=>⟨o,k b o (λz=>hc (by simp[z])) e⟩) (λ_ _ e=>e) (λ_ _ _ e=>e) (λb ps e=>⟨#[],by rw[e];simp⟩) (λm hm=>?_) (λb u e=>?_) I.bare (Nat.le_trans I.up ht)
 ·have e:b=it:=by simpa using hb
  subst e
  exact⟨h1,hL,h2,h3⟩
 ·obtain⟨o,es,ep,ho,r⟩:=hm
  exact⟨o,es,ep,k _ o (Ne.symm hL) ho,r⟩
 ·refine(I.hok b u e).stay (λc v hc q=>k c v ?_ q) (λ_ q=>q) λ_ _ q=>q
  rcases hc with z|z
  ·rw[z];exact Zl b u e
  ·exact Zl c _ z
theorem Inv.tok(I:Inv X pins σ H s)(t':Nat)(ht:s.toks<=t':=by first|exact Nat.le_refl _|exact Nat.le_succ _|assumption|omega):Inv X pins σ H { s with toks:=t' }:=I.un (h':=s.heap) (t':=t') Un.refl I.hok ht
theorem Inv.kept{t':Nat}(I:Inv X pins σ H s)(k:∀b u,s.heap.get? b=some u->h'.get? b=some u)(ht:s.toks<=t':=by first|exact Nat.le_refl _|exact Nat.le_succ _|assumption|omega):Inv X pins σ H { s with heap:=h',toks:=t' }:=I.un (Un.kept k) (I.hok.kept k) ht
theorem Inv.laid{a:Addr}{o:HO}{t':Nat}(I:Inv X pins σ H s)(k:∀b u,s.heap.get? b=some u->h'.get? b=some u)(hp:s.heap.objs.size<=a)(new:bQ X.prog X.w (upd H a o) h' a o)(ht:s.toks<=t':=by first|exact Nat.le_refl _|exact Nat.le_succ _|assumption|omega):
  Inv X pins σ (upd H a o) { s with heap:=h',toks:=t' }:=I.un (Un.laid k hp (I.hok.fresh hp)) (I.hok.laid k hp new) ht
theorem Inv.write{x e:Addr}{o:HO}{t':Nat}(I:Inv X pins σ H s)(mu:TN (H x))(he:e=x\/H e=some (.own x))(k:∀b u,b≠e->s.heap.get? b=some u->h'.get? b=some u)(QW:∃u,h'.get? e=some u)
  (new:bQ X.prog X.w (upd H x o) h' x o) (ht:s.toks<=t':=by first|exact Nat.le_refl _|exact Nat.le_succ _|assumption|omega):Inv X pins σ (upd H x o) { s with heap:=h',toks:=t' }:=I.un (Un.write mu he k QW) (I.hok.write mu he k QW new) ht
theorem Inv.weak{σ':List (Option V)}(I:Inv X pins σ H s)(hl:σ'.length=σ.length)(w:∀(i:Nat) v,σ'[i]? =some (some v)->σ[i]? =some (some v)):Inv X pins σ' H s :=
 ⟨I.ok,I.os,I.bare,I.base,let ⟨m,hn,hl'⟩:=I.loc;⟨m,hn,λi x v e1 e2 e3=>hl' i x v e1 (w i v e2) e3⟩,I.cell,I.free,I.kc,I.pin,I.hok,hl.trans I.len,I.up⟩
theorem Inv.Ax{MO:List (Addr×Obj)}(I:Inv X pins σ H s)(h:∀p∈MO,s.heap.get? p.1=some p.2/\H p.1=none/\p.1≠X.env.locals/\p.1∉X.fs/\∀v,p.2.data≠ .cell v):Inv X MO σ H s :=
 ⟨I.ok,I.os,I.bare,I.base,I.loc,I.cell,I.free,I.kc,λp hp=>(List.mem_append.mp hp).elim (λz=>I.pin p (List.mem_append_left _ z)) (h p),I.hok,I.len,I.up⟩
theorem xC{N:List Str}(hN:N.Nodup){i j:Nat}{x:Str}(a:N[i]? =some x)(b:N[j]? =some x):i=j:=by
 obtain⟨h1,e1⟩:=List.getElem?_eq_some_iff.mp a
 obtain⟨h2,e2⟩:=List.getElem?_eq_some_iff.mp b
 exact(List.getElem_inj hN).mp (e1.trans e2.symm)
theorem zw{M:Model}{A:Around}{E:Value->Shared->Prop}{i:Nat}{x:Str}{v:V}{u:Value}{Q:Unit->Shared->Prop}(I:Inv X pins σ H s)(hN:X.N.Nodup)(hi:X.N[i]? =some x)(hx:Loc X.env.scope x)(r:RelV v u)
  (h:∀s',Inv X pins (σ.set i (some v)) H s'->(∃a,Heap.SameBut a s.heap s'.heap/\(a=X.env.locals\/X.env.cells.lookup x=some a))->Q () s') (hf:X.fn x=true\/X.env.scope.names.lookup x=some .local:=by first|exact .inl rfl|exact .inr rfl|assumption):wpAny M A (storeName X.env x u) Q E s:=by
 obtain⟨m,hn,hl⟩:=id I.loc
 have hcls:(X.env.scope.kind== .class||(X.env.scope.kind== .module&&X.env.locals != X.env.globals))=false:=by rw[I.ok.kind];rfl
 have S0:i<σ.length:=by rw[I.len];exact(List.getElem?_eq_some_iff.mp hi).1
 have Nd:=I.Nd
 have tracked:∀{a:Addr} {h':Heap},(∃o,s.heap.get? a=some o/\H a=none)->Heap.SameBut a s.heap h'->mO X.prog X.w H h':=λ{a h'} ha hs b ob e=>by
  obtain⟨_,_,hfree⟩:=ha
  refine(I.hok b ob e).stay (λc w' hc q=>(hs.2 c ?_).trans q) (λ_ q=>q) λ_ _ q=>q
  rintro rfl
  rcases hc with rfl|hc
  ·rw[hfree]at e;cases e
  ·rw[hfree]at hc;cases hc
 rcases hx with hk|hk
 ·refine wpAny_storeName_local hk hn (λh' hn' hs=>?_) hcls
  obtain⟨oL,_,_,hoL,_⟩:=id hn
  refine h _ ⟨I.ok,I.os,I.bare,⟨λb o e n hb hx=>?_,λb o e n hb hx=>?_,I.base.free,λb o e hx=>?_,I.base.tups,I.base.r9,I.base.sJ⟩,⟨_,hn',λj y v' e1 e2 e3=>?_⟩,λy c e=>?_,I.free,I.kc,λp hp=>?_,tracked ⟨oL,hoL,I.free⟩ hs,by simpa using I.len,Nat.le_trans I.up (by first|exact Nat.le_refl _|exact Nat.le_succ _|exact Nat.le_add_right _ _)⟩ ⟨_,hs,.inl rfl⟩
  ·exact(hs.2 b (Nat.ne_of_lt (Nat.lt_of_lt_of_le (Heap.lt_size e) I.ok.above))).trans (I.base.keep b o e n hb hx)
  ·obtain⟨sl,e1⟩:=I.base.slot b o e n hb hx
   exact⟨sl,(hs.2 b (Nat.ne_of_lt (Nat.lt_of_lt_of_le (Heap.lt_size e) I.ok.above))).trans e1⟩
  ·obtain⟨o',e1⟩:=I.base.there b o e hx
   exact⟨o',(hs.2 b (Nat.ne_of_lt (Nat.lt_of_lt_of_le (Heap.lt_size e) I.ok.above))).trans e1⟩
  ·by_cases hj:j=i
   ·subst hj
    rw[hi]at e1;cases e1
    rw[List.getElem?_set_self S0]at e2
    cases e2
    exact⟨u,r,.inl ⟨hk,by simp⟩⟩
   ·rw[List.getElem?_set_ne (Ne.symm hj)]at e2
    obtain⟨u',r',q⟩:=hl j y v' e1 e2 e3
    refine⟨u',r',?_⟩
    rcases q with⟨k,e⟩|⟨k,c,e,z⟩
    ·refine .inl ⟨k,?_⟩
     have:y≠x:=λe=>hj (xC hN e1 (e▸hi))
     simp[this,e]
    ·exact .inr ⟨k,c,e,z.sameBut hs (Nd y c e)⟩
  ·obtain⟨w',z⟩:=I.cell y c e
   exact⟨w',z.sameBut hs (Nd y c e)⟩
  ·obtain⟨e,n,ne,nf,d⟩:=I.pin p hp
   exact⟨(hs.2 p.1 ne).trans e,n,ne,nf,d⟩
 ·have hfn:X.fn x=true:=by
   rcases hf with z|z
   ·exact z
   ·rw[z]at hk;cases hk
  obtain⟨c,hc⟩:=I.ok.has x (.inl hk)
  obtain⟨w',z⟩:=I.cell x c hc
  refine wpAny_storeName_cell I.ok.kind hk hc z (λh' hc' hs=>?_)
  obtain⟨oc,hoc,XG⟩:=id z
  refine h { s with heap:=h' } ⟨I.ok,I.os,I.bare,⟨λb o e n hb hx=>?_,λb o e n hb hx=>?_,I.base.free,λb o e hx=>?_,I.base.tups,I.base.r9,I.base.sJ⟩,⟨m,hn.sameBut hs (Ne.symm (Nd x c hc)),λj y v' e1 e2 e3=>?_⟩,λy c' e=>?_,I.free,I.kc,λp hp=>?_,tracked ⟨oc,hoc,I.kc x c hc⟩ hs,by simpa using I.len,I.up⟩ ⟨c,hs,.inr hc⟩
  ·exact(hs.2 b (Nat.ne_of_lt (Nat.lt_of_lt_of_le (Heap.lt_size e) (I.ok.Mr x c hfn hc)))).trans (I.base.keep b o e n hb hx)
  ·obtain⟨sl,e1⟩:=I.base.slot b o e n hb hx
   exact⟨sl,(hs.2 b (Nat.ne_of_lt (Nat.lt_of_lt_of_le (Heap.lt_size e) (I.ok.Mr x c hfn hc)))).trans e1⟩
  ·obtain⟨o',e1⟩:=I.base.there b o e hx
   exact⟨o',(hs.2 b (Nat.ne_of_lt (Nat.lt_of_lt_of_le (Heap.lt_size e) (I.ok.Mr x c hfn hc)))).trans e1⟩
  ·by_cases hj:j=i
   ·subst hj
    rw[hi]at e1;cases e1
    rw[List.getElem?_set_self S0]at e2
    cases e2
    exact⟨u,r,.inr ⟨.inl hk,c,hc,hc'⟩⟩
   ·rw[List.getElem?_set_ne (Ne.symm hj)]at e2
    obtain⟨u',r',q⟩:=hl j y v' e1 e2 e3
    refine⟨u',r',?_⟩
    rcases q with q|⟨k,c',e,z'⟩
    ·exact .inl q
    ·refine .inr ⟨k,c',e,z'.sameBut hs ?_⟩
     rintro rfl
     exact hj (xC hN e1 (I.ok.inj _ _ _ e hc▸hi))
  ·by_cases hcc:c'=c
   ·subst hcc;exact⟨_,hc'⟩
   ·obtain⟨w2,z2⟩:=I.cell y c' e
    exact⟨w2,z2.sameBut hs hcc⟩
  ·obtain⟨e,n,ne,nf,d⟩:=I.pin p hp
   refine⟨(hs.2 p.1 ?_).trans e,n,ne,nf,d⟩
   intro q
   rw[q,hoc]at e
   have q':oc=p.2:=Option.some.inj e
   exact d w' (by rw[←q'];exact XG)
theorem wM{M:Model}{A:Around}{E:Value->Shared->Prop}{i:Nat}{x:Str}{v:V}{u:Value}{Q:Unit->Shared->Prop}(I:Inv X pins σ H s)(hN:X.N.Nodup)(hi:X.N[i]? =some x)(hx:Loc X.env.scope x)(r:RelV v u)
  (h:∀s',Inv X pins (σ.set i (some v)) H s'->Q () s') (hf:X.fn x=true\/X.env.scope.names.lookup x=some .local:=by first|exact .inl rfl|exact .inr rfl|assumption):wpAny M A (storeName X.env x u) Q E s :=
 zw I hN hi hx r (λs' I' _=>h s' I') hf
theorem Inv.Ku{s':Shared}{ch:List Addr}(I:Inv X pins σ H s)(ho:s'.os=s.os)(u:Un (frs X.stack) ch H H' s.heap s'.heap)(hok:mO X.prog X.w H' s'.heap)(hg:AllBare s'.gens)
  (hch:∀b∈ch,(b∈X.ex\/X.s₀.heap.objs.size<=b)/\b≠X.env.locals/\(∀x c,X.env.cells.lookup x=some c->c≠b)/\∀p∈X.pn++pins,p.1≠b) (ht:X.s₀.toks<=s'.toks):Inv X pins σ H' s':=by
 obtain⟨h',g',d',t',o'⟩:=s'
 have e:o'=s.os:=ho
 subst e
 exact I.call (g':=g') (t':=t') (d':=d') u hok hg hch ht
end
abbrev XK:=Value->Option Addr->Hp->Prop
abbrev St:=List (Option V)
abbrev VK:=V->Hp->Prop
abbrev TE:=St->Hp->VK->Prop
abbrev TT:=St->Hp->(Bool->Hp->Prop)->Prop
abbrev TA:=St->Hp->(List V->Hp->Prop)->Prop
structure Ends where
 nx:St->Hp->Prop
 rt:VK
 bk:St->Hp->Prop:=λ_ _=>False
 ct:St->Hp->Prop:=λ_ _=>False
abbrev TS:=Ends->St->Hp->Prop
def EP(X:Cx)(pins:List (Addr×Obj))(σ:St)(Q:VK)(u:Value)(s':Shared):Prop:=∃v H',Inv X pins σ H' s'/\RelV v u/\Q v H'
def TP(X:Cx)(pins:List (Addr×Obj))(σ:St)(Q:Bool->Hp->Prop)(b:Bool)(s':Shared):Prop:=∃H',Inv X pins σ H' s'/\Q b H'
def AP(X:Cx)(pins:List (Addr×Obj))(σ:St)(Q:List V->Hp->Prop)(us:List Value)(s':Shared):Prop:=∃vs H',Inv X pins σ H' s'/\Vals vs us/\Q vs H'
def SP(X:Cx)(pins:List (Addr×Obj))(D:Ends)(f:Flow)(s':Shared):Prop :=
 match f with
 | .next=>∃ σ' H',Inv X pins σ' H' s'/\D.nx σ' H'
 | .brk=>∃ σ' H',Inv X pins σ' H' s'/\D.bk σ' H'
 | .cont=>∃ σ' H',Inv X pins σ' H' s'/\D.ct σ' H'
 | .ret u=>∃v σ' H',Inv X pins σ' H' s'/\RelV v u/\D.rt v H'
def PE(X:Cx)(e:Expr)(t:TE):Prop :=
 ∀(pins:List (Addr×Obj)) (s:Shared) (σ:St) (H:Hp) (Q:VK),Inv X pins σ H s->t σ H Q->wpAny (model X.prog X.w) X.A (eval e X.env) (EP X pins σ Q) X.xe s
def PT(X:Cx)(e:Expr)(t:TT):Prop :=
 ∀(pins:List (Addr×Obj)) (s:Shared) (σ:St) (H:Hp) (Q:Bool->Hp->Prop),Inv X pins σ H s->t σ H Q->wpAny (model X.prog X.w) X.A (isTrue e X.env (eval e X.env)) (TP X pins σ Q) X.xe s
def PW(X:Cx)(e:Expr)(t:TT):Prop :=
 ∀(whole:Sem Value) (pins:List (Addr×Obj)) (s:Shared) (σ:St) (H:Hp) (Q:Bool->Hp->Prop),Inv X pins σ H s->t σ H Q->wpAny (model X.prog X.w) X.A (isTrue e X.env whole) (TP X pins σ Q) X.xe s
theorem PW.pt{X:Cx}{e:Expr}{t:TT}(h:PW X e t):PT X e t:=h _
def PA(X:Cx)(es:List Expr)(t:TA):Prop :=
 ∀(pos:Pos) (pins:List (Addr×Obj)) (s:Shared) (σ:St) (H:Hp) (Q:List V->Hp->Prop),Inv X pins σ H s->t σ H Q->wpAny (model X.prog X.w) X.A (spliced (backTo pos (starEach es X.env))) (AP X pins σ Q) X.xe s
def PS(X:Cx)(st:Stmt)(t:TS):Prop :=
 ∀(pins:List (Addr×Obj)) (s:Shared) (σ:St) (H:Hp) (D:Ends),Inv X pins σ H s->t D σ H->wpAny (model X.prog X.w) X.A (exec st X.env) (SP X pins D) X.xe s
def Aa(X:Cx)(st:List Stmt)(t:TS):Prop :=
 ∀(pins:List (Addr×Obj)) (s:Shared) (σ:St) (H:Hp) (D:Ends),Inv X pins σ H s->t D σ H->wpAny (model X.prog X.w) X.A (execs st X.env) (SP X pins D) X.xe s
theorem fh{α:Type}{t:Sem α}{Q Q':α->Shared->Prop}{M:Model}{A:Around}{E:Value->Shared->Prop}{s:Shared}(h:wpAny M A t Q E s)(hQ:∀a s,Q a s->Q' a s):wpAny M A t Q' E s:=wpAny_mono h hQ λ_ _ x=>x
end L2
namespace L2
open PySem PySem.Spec PyProof.Rows
section
variable{X:Cx}
def Ra(i:Nat):TE:=λσ H Q=>∃v,σ[i]? =some (some v)/\Q v H
def tC(v:V):TE:=λ_ H Q=>Q v H
theorem O6 {i:Nat} {x:Str} {pos:Pos} (hN:X.N[i]? =some x) (hv:UL X.env.scope x) (hd:(x==("__debug__" :Str))=false:=by decide) (hcd:(x==("__classdict__" :Str))=false:=by decide):PE X (.Name x pos) (Ra i):=by
 intro pins s σ H Q I h
 obtain⟨v,e,h⟩:=h
 obtain⟨m,hn,hl⟩:=I.loc
 obtain⟨u,r,l⟩:=hl i x v hN e hv
 have fin:EP X pins σ Q u s:=⟨v,H,I,r,h⟩
 rcases l with⟨hk,hm⟩|⟨hk,c,hc,hcell⟩
 ·exact wpAny_Name (wpAny_loadName_local I.ok.kind hk hn hm fin) hd
 ·rcases hk with hk|hk
  ·exact wpAny_Name (wpAny_loadName_cell I.ok.kind hk hc hcell fin) hd
  ·exact wpAny_Name (wpAny_loadName_free I.ok.kind hk hc hcell fin hcd) hd
theorem ak{i j pos}:PE X (.Constant (.int i) j pos) (tC (.int i)):=λ_ _ _ H _ I h=>wpAny_Constant_int ⟨.int i,H,I.tok _,⟨_,rfl⟩,h⟩
theorem CD{b j pos}:PE X (.Constant (.bool b) j pos) (tC (.bl b)):=λ_ _ _ H _ I h=>Constant_bool ⟨.bl b,H,I,rfl,h⟩
theorem oW{j pos}:PE X (.Constant .none j pos) (tC .iz):=λ_ _ _ H _ I h=>Constant_none ⟨.iz,H,I,rfl,h⟩
theorem bB{x j pos}:PE X (.Constant (.str x) j pos) (tC (.str x)):=λ_ _ _ H _ I h=>Calls.Constant_str ⟨.str x,H,I.tok _,⟨_,rfl⟩,h⟩
def Gl(X:Cx)(x:Str):Prop:=X.env.kindOf x=some .globalImplicit
theorem nP{E:Value->Shared->Prop}{pins:List (Addr×Obj)}{s:Shared}{σ:St}{H:Hp}{x:Str}{u:Value}{pos:Pos}{Q:Value->Shared->Prop}(I:Inv X pins σ H s)(hg:Gl X x)(hm:X.mg x=some u)(h:Q u s)
  (hd:(x==("__debug__" :Str))=false:=by decide):wpAny (model X.prog X.w) X.A (eval (.Name x pos) X.env) Q E s :=
 Calls.Name_function_global I.ok.kind hg (Calls.loadGlobal_global (by rw[I.ok.glob];exact I.mod.glob.keeps I.bk) hm h) hd
theorem qi{E:Value->Shared->Prop}{pins:List (Addr×Obj)}{s:Shared}{σ:St}{H:Hp}{x:Str}{u:Value}{pos:Pos}{Q:Value->Shared->Prop}(I:Inv X pins σ H s)(hg:Gl X x)(hm:X.mg x=none)(hv:bootBuiltins x=some u)(h:Q u s)
  (hn:x≠ "__name__" :=by decide) (hd:(x==("__debug__" :Str))=false:=by decide):wpAny (model X.prog X.w) X.A (eval (.Name x pos) X.env) Q E s:=by
 obtain⟨mb,h1,h2⟩:=I.mod.blt
 exact Calls.Name_function_global I.ok.kind hg (Calls.loadGlobal_builtin (by rw[I.ok.glob];exact I.mod.glob.keeps I.bk) hm (by rw[I.ok.blt];exact h1.keeps I.bk) ((h2 x hn).trans hv) h) hd
theorem oX {x:Str} {v:V} {u:Value} {pos:Pos} (hg:Gl X x) (hm:X.mg x=some u) (r:RelV v u) (hd:(x==("__debug__" :Str))=false:=by decide):PE X (.Name x pos) (tC v) :=
 λ_ _ _ H _ I h=>nP I hg hm ⟨v,H,I,r,h⟩ hd
theorem gf {x:Str} {v:V} {u:Value} {pos:Pos} (hg:Gl X x) (hm:X.mg x=none) (hv:bootBuiltins x=some u) (r:RelV v u) (hn:x≠ "__name__" :=by decide) (hd:(x==("__debug__" :Str))=false:=by decide):PE X (.Name x pos) (tC v) :=
 λ_ _ _ H _ I h=>qi I hg hm hv ⟨v,H,I,r,h⟩ hn hd
variable{a b:Expr}{ta tb:TE}{pos:Pos}
def tB(t:TE):TT:=λσ H Q=>t σ H λx H1=>∃c,x= .bl c/\Q c H1
theorem iG{e:Expr}{t:TE}(h:PE X e t)(he:∀whole,isTrue e X.env whole=(do let v ←whole;standAt e.pos;holding [v] (truthy v)):=by intro _;rfl):PT X e (tB t):=by
 intro pins s σ H Q I hw
 refine isTrue_plain (fh (h pins s σ H _ I hw) λv s1 ⟨x,H1,I1,r1,q1⟩=>?_) (he _)
 obtain⟨d,rfl,q⟩:=q1
 cases r1
 exact wpAny_truthy_bool ⟨H1,I1,q⟩
variable{tA Ug:TT}{rest:List Expr}
def Ws(t u:TT):TT:=λσ H Q=>t σ H λc H1=>if c=true then u σ H1 Q else Q false H1
def tOr(t u:TT):TT:=λσ H Q=>t σ H λc H1=>if c=true then Q true H1 else u σ H1 Q
def Wk(t:TT):TT:=λσ H Q=>t σ H λc H1=>Q (!c) H1
theorem FP(ha:PT X a tA):PW X (.BoolOp .And [a] pos) tA:=by
 intro wh pins s σ H Q I h
 refine isTrue_and (fh (ha pins s σ H Q I h) λc s1 e=>?_)
 cases c with
 |true=>exact isTrue_and_nil e
 |false=>exact e
theorem Eo(ha:PT X a tA):PW X (.BoolOp .Or [a] pos) tA:=by
 intro wh pins s σ H Q I h
 refine isTrue_or (fh (ha pins s σ H Q I h) λc s1 e=>?_)
 cases c with
 |false=>exact isTrue_or_nil e
 |true=>exact e
theorem I0(ha:PT X a tA)(hb:PW X (.BoolOp .And (b::rest) pos) Ug):PW X (.BoolOp .And (a::b::rest) pos) (Ws tA Ug):=by
 intro wh pins s σ H Q I h
 refine isTrue_and (fh (ha pins s σ H _ I h) λc s1 ⟨H1,I1,q1⟩=>?_)
 cases c with
 |true=>exact hb wh pins s1 σ H1 Q I1 q1
 |false=>exact⟨H1,I1,q1⟩
theorem IZ(ha:PT X a tA)(hb:PW X (.BoolOp .Or (b::rest) pos) Ug):PW X (.BoolOp .Or (a::b::rest) pos) (tOr tA Ug):=by
 intro wh pins s σ H Q I h
 refine isTrue_or (fh (ha pins s σ H _ I h) λc s1 ⟨H1,I1,q1⟩=>?_)
 cases c with
 |true=>exact⟨H1,I1,q1⟩
 |false=>exact hb wh pins s1 σ H1 Q I1 q1
theorem w9(ha:PT X a tA):PT X (.UnaryOp .Not a pos) (Wk tA):=by
 intro pins s σ H Q I h
 exact isTrue_not (ha pins s σ H (λc H1=>Q (!c) H1) I h)
def Rr(ta tb:TE):TE:=λσ H Q=>ta σ H λx H1=>∃c,x= .bl c/\if c=true then tb σ H1 Q else Q (.bl false) H1
def Wj(ta tb:TE):TE:=λσ H Q=>ta σ H λx H1=>∃c,x= .bl c/\if c=true then Q (.bl true) H1 else tb σ H1 Q
def Rf(ta:TE):TE:=λσ H Q=>ta σ H λx H1=>∃c,x= .bl c/\Q (.bl (!c)) H1
theorem j3{op}{t:TE}(h:PE X a t):PE X (.BoolOp op [a] pos) t:=λpins s σ H Q I hw=>BoolOp_one (h pins s σ H Q I hw)
theorem j4(ha:PE X a ta)(hb:PE X (.BoolOp .And (b::rest) pos) tb):PE X (.BoolOp .And (a::b::rest) pos) (Rr ta tb):=by
 intro pins s σ H Q I h
 refine BoolOp_and (fh (ha pins s σ H _ I h) λv s1 ⟨x,H1,I1,r1,q1⟩=>?_)
 obtain⟨c,rfl,q1⟩:=q1
 cases r1
 refine wpAny_truthy_bool ?_
 cases c with
 |true=>exact hb pins s1 σ H1 Q I1 q1
 |false=>exact⟨.bl false,H1,I1,rfl,q1⟩
theorem MQ(ha:PE X a ta)(hb:PE X (.BoolOp .Or (b::rest) pos) tb):PE X (.BoolOp .Or (a::b::rest) pos) (Wj ta tb):=by
 intro pins s σ H Q I h
 refine BoolOp_or (fh (ha pins s σ H _ I h) λv s1 ⟨x,H1,I1,r1,q1⟩=>?_)
 obtain⟨c,rfl,q1⟩:=q1
 cases r1
 refine wpAny_truthy_bool ?_
 cases c with
 |false=>exact hb pins s1 σ H1 Q I1 q1
 |true=>exact⟨.bl true,H1,I1,rfl,q1⟩
theorem Jc(ha:PE X a ta):PE X (.UnaryOp .Not a pos) (Rf ta):=by
 intro pins s σ H Q I h
 refine UnaryOp_ (fh (ha pins s σ H _ I h) λv s1 ⟨x,H1,I1,r1,q1⟩=>?_)
 obtain⟨c,rfl,q1⟩:=q1
 cases r1
 exact not_of (wpAny_truthy_bool ⟨.bl (!c),H1,I1,rfl,q1⟩)
def tIf(t:TT)(ta tb:TE):TE:=λσ H Q=>t σ H λc H1=>if c=true then ta σ H1 Q else tb σ H1 Q
theorem oB{c:Expr}(hc:PT X c tA)(ha:PE X a ta)(hb:PE X b tb):PE X (.IfExp c a b pos) (tIf tA ta tb):=by
 intro pins s σ H Q I h
 refine wpAny_IfExp (fh (hc pins s σ H _ I h) λd s1 ⟨H1,I1,q1⟩=>?_)
 cases d with
 |true=>exact ha pins s1 σ H1 Q I1 q1
 |false=>exact hb pins s1 σ H1 Q I1 q1
end
end L2
namespace L2
open PySem PySem.Spec PyProof.Rows
def bI(K:PySem.W.Frag)(H:Hp)(a:Addr)(xs:List V):Prop :=
 Rd H a (.lst xs) ∨
  ∃(o:Obj) (its:Array Value) (n:Nat),K.lookup a=some o/\o.cls= .type "list" /\o.dict=none/\o.data= .seq its n/\its.size<=sizeLine/\Vals xs its.toList
def dR(K:PySem.W.Frag)(H:Hp)(a:Addr)(xs:List V):Prop :=
 Rd H a (.tup xs) ∨
  ∃(o:Obj) (its:Array Value) (n:Nat),K.lookup a=some o/\o.cls= .type "tuple" /\o.data= .seq its n/\its.size<=sizeLine/\Vals xs its.toList
def YL:Value->Option V
 | .none=>some .iz
 | .bool b=>some (.bl b)
 | .int i _=>some (.int i)
 | .str x _=>some (.str x)
 | .bytes b _=>some (.Gq b)
 | .float b _=>some (.Ql b)
 | .ref a=>some (.ref a)
 | .type n=>some (.ty n)
 |_=>none
theorem RelV.abs{x:V}{u:Value}(r:RelV x u):YL u=some x:=by
 cases x with
 |iz=>cases r;rfl
 |bl _=>cases r;rfl
 |int _=>obtain⟨t,rfl⟩:=r;rfl
 |str _=>obtain⟨t,rfl⟩:=r;rfl
 |Gq _=>obtain⟨t,rfl⟩:=r;rfl
 |Ql _=>obtain⟨t,rfl⟩:=r;rfl
 |ref _=>cases r;rfl
 |ty _=>cases r;rfl
theorem RelV.inj{x y:V}{u:Value}(r:RelV x u)(q:RelV y u):x=y:=Option.some.inj (r.abs.symm.trans q.abs)
theorem Vals.inj:∀{xs ys:List V} {us:List Value},Vals xs us->Vals ys us->xs=ys
 |_,_,_,.nil,.nil=>rfl
 |_,_,_,.cons r t,.cons r' t'=>by rw[r.inj r',Vals.inj t t']
section
variable{X:Cx}{pins:List (Addr×Obj)}{σ:St}{H:Hp}{s:Shared}{a:Addr}{xs ys:List V}
theorem bI.of{K:PySem.W.Frag}(h:H a=some (.lst xs)):bI K H a xs:=.inl (.inl h)
theorem dR.of{K:PySem.W.Frag}(h:H a=some (.tup xs)):dR K H a xs:=.inl (.inl h)
theorem Inv.list(I:Inv X pins σ H s)(h:bI X.K H a xs):∃its:List Value,Vals xs its/\PlainL s.heap a its.toArray/\xs.length<=sizeLine:=by
 rcases h with h|⟨o,its,n,hk,hc,hd,hs,hz,r⟩
 ·obtain⟨z,its,n,r,e⟩:=h.ok I.hok
  exact⟨its,r,⟨_,n,e,rfl,rfl,rfl⟩,z⟩
 ·refine⟨its.toList,r,⟨o,n,I.pI a o hk,hc,hd,by simpa using hs⟩,?_⟩
  have e:=r.length
  simp only[Array.length_toList]at e
  omega
theorem Inv.tuple(I:Inv X pins σ H s)(h:dR X.K H a xs):∃its:List Value,Vals xs its/\IsTup s.heap a its.toArray/\xs.length<=sizeLine:=by
 rcases h with h|⟨o,its,n,hk,hc,hs,hz,r⟩
 ·obtain⟨z,its,r,p⟩:=h.ok I.hok
  exact⟨its,r,p,z⟩
 ·refine⟨its.toList,r,⟨o,I.pI a o hk,hc,n,by simpa using hs⟩,?_⟩
  have e:=r.length
  simp only[Array.length_toList]at e
  omega
theorem Inv.xM(I:Inv X pins σ H s)(h:bI X.K H a xs)(h':bI X.K H a ys):xs=ys:=by
 obtain⟨its,r,⟨o,n,e,_,_,d⟩,_⟩:=I.list h
 obtain⟨its',r',⟨o',n',e',_,_,d'⟩,_⟩:=I.list h'
 rw[e]at e';cases e'
 rw[d]at d'
 injection d' with d1 _
 have:its=its':=by simpa using congrArg Array.toList d1
 subst this
 exact r.inj r'
theorem Inv.zu(I:Inv X pins σ H s)(h:dR X.K H a xs)(h':dR X.K H a ys):xs=ys:=by
 obtain⟨its,r,⟨o,e,_,n,d⟩,_⟩:=I.tuple h
 obtain⟨its',r',⟨o',e',_,n',d'⟩,_⟩:=I.tuple h'
 rw[e]at e';cases e'
 rw[d]at d'
 injection d' with d1 _
 have:its=its':=by simpa using congrArg Array.toList d1
 subst this
 exact r.inj r'
end
abbrev Cx.yq(X:Cx)(E:Value->Shared->Prop):Cx:={ X with xe:=E }
abbrev Cx.Pe(X:Cx):Cx:=X.yq λ_ _=>False
theorem Cx.Ok.yq{X:Cx}(ok:X.Ok)(E:Value->Shared->Prop):(X.yq E).Ok :=
 ⟨ok.mod,ok.kind,ok.glob,ok.blt,ok.above,ok.inj,ok.has,ok.Mr,ok.hd,ok.frames,ok.stk,ok.UI,ok.bs,ok.Kv,ok.EA,ok.Ht,ok.rZ,ok.Mi,ok.tk⟩
theorem Cx.Ok.pM{X:Cx}{E:Value->Shared->Prop}(ok:(X.yq E).Ok):X.Ok :=
 ⟨ok.mod,ok.kind,ok.glob,ok.blt,ok.above,ok.inj,ok.has,ok.Mr,ok.hd,ok.frames,ok.stk,ok.UI,ok.bs,ok.Kv,ok.EA,ok.Ht,ok.rZ,ok.Mi,ok.tk⟩
section
variable{X:Cx}{pins:List (Addr×Obj)}{σ:St}{H:Hp}{s:Shared}{E:Value->Shared->Prop}
theorem Inv.yq(I:Inv X pins σ H s)(E:Value->Shared->Prop):Inv (X.yq E) pins σ H s:=⟨I.ok.yq E,I.os,I.bare,I.base,I.loc,I.cell,I.free,I.kc,I.pin,I.hok,I.len,I.up⟩
theorem Inv.pM(I:Inv (X.yq E) pins σ H s):Inv X pins σ H s:=⟨I.ok.pM,I.os,I.bare,I.base,I.loc,I.cell,I.free,I.kc,I.pin,I.hok,I.len,I.up⟩
theorem SP.pM{D:Ends}{f:Flow}{s':Shared}(h:SP (X.yq E) pins D f s'):SP X pins D f s':=by
 cases f with
 |next=>obtain⟨σ',H',I,q⟩:=h;exact⟨σ',H',I.pM,q⟩
 |brk=>obtain⟨σ',H',I,q⟩:=h;exact⟨σ',H',I.pM,q⟩
 |cont=>obtain⟨σ',H',I,q⟩:=h;exact⟨σ',H',I.pM,q⟩
 |ret u=>obtain⟨v,σ',H',I,r,q⟩:=h;exact⟨v,σ',H',I.pM,r,q⟩
theorem Aa.Pe{st:List Stmt}{t:TS}(h:Aa X.Pe st t):Aa X st t:=λpins s σ H D I hw =>
 wpAny_mono (h pins s σ H D (I.yq _) hw) (λ_ _ q=>q.pM) λ_ _ z=>False.elim z
end
section
variable{X:Cx}{st:Stmt}{rest:List Stmt}{t u:TS}{e:Expr}{te:TE}{pos:Pos}
def Rg:TS:=λD σ H=>D.nx σ H
def Wh(t u:TS):TS:=λD σ H=>t { D with nx:=u D } σ H
theorem aS:Aa X [] Rg:=λ_ _ σ H _ I h=>wpAny_execs_nil ⟨σ,H,I,h⟩
theorem aj(h1:PS X st t)(h2:Aa X rest u):Aa X (st::rest) (Wh t u):=by
 intro pins s σ H D I h
 refine wpAny_execs_cons (fh (h1 pins s σ H { D with nx:=u D } I h) λf s1 q=>?_)
 cases f with
 |next =>
  obtain⟨σ',H',I',q⟩:=q
  exact h2 pins s1 σ' H' D I' q
 |ret v=>exact q
 |brk=>exact q
 |cont=>exact q
theorem aq(h1:PS X st t):Aa X [st] t:=by
 intro pins s σ H D I h
 refine wpAny_execs_cons (fh (h1 pins s σ H D I h) λf s1 q=>?_)
 cases f with
 |next=>exact wpAny_execs_nil q
 |ret v=>exact q
 |brk=>exact q
 |cont=>exact q
theorem Inv.quiet{pins:List (Addr×Obj)}{σ:St}{H:Hp}{s:Shared}(I:Inv X pins σ H s):interactive X.env=false:=by simp[interactive,I.ok.kind]
def Rm(te:TE):TS:=λD σ H=>te σ H λ_ H1=>D.nx σ H1
theorem dF(he:PE X e te)(hs:swapsWith e none pos.line X.env=pure false:=by rfl):PS X (.Expr e pos) (Rm te):=by
 intro pins s σ H D I h
 exact wpAny_Expr_any (fh (he pins s σ H _ I h) λv s1 ⟨x,H1,I1,r1,q1⟩=>⟨σ,H1,I1,q1⟩) I.quiet hs
def Wi(te:TE):TS:=λD σ H=>te σ H D.rt
theorem aL(he:PE X e te):PS X (.Return (some e) pos) (Wi te):=by
 intro pins s σ H D I h
 exact wpAny_Return_some (fh (he pins s σ H _ I h) λv s1 ⟨x,H1,I1,r1,q1⟩=>⟨x,σ,H1,I1,r1,q1⟩)
def Wq(c:TT)(t u:TS):TS:=λD σ H=>c σ H λb H1=>if b=true then t D σ H1 else u D σ H1
theorem bO{c:Expr}{a b:List Stmt}{tc:TT}(hc:PT X c tc)(ha:Aa X a t)(hb:Aa X b u):PS X (.If c a b pos) (Wq tc t u):=by
 intro pins s σ H D I h
 refine wpAny_If (fh (hc pins s σ H _ I h) λd s1 ⟨H1,I1,q1⟩=>?_)
 cases d with
 |true=>exact ha pins s1 σ H1 D I1 q1
 |false=>exact hb pins s1 σ H1 D I1 q1
def OP:TS:=λ_ _ _=>False
theorem fq{sts:List Stmt}:Aa X sts OP:=λ_ _ _ _ _ _ h=>h.elim
end
abbrev TG:=V->St->Hp->(St->Hp->Prop)->Prop
abbrev Ni:=List V->St->Hp->(St->Hp->Prop)->Prop
def PG(X:Cx)(target:Expr)(t:TG):Prop :=
 ∀(pins:List (Addr×Obj)) (s:Shared) (σ:St) (H:Hp) (v:V) (u:Value) (Q:St->Hp->Prop),Inv X pins σ H s->RelV v u->t v σ H Q →
  wpAny (model X.prog X.w) X.A (assign target X.env u) (λ_ s'=>∃ σ' H',Inv X pins σ' H' s'/\Q σ' H') X.xe s
def TF(X:Cx)(ts:List Expr)(t:Ni):Prop :=
 ∀(pins:List (Addr×Obj)) (s:Shared) (σ:St) (H:Hp) (vs:List V) (us:List Value) (Q:St->Hp->Prop),Inv X pins σ H s->Vals vs us->t vs σ H Q →
  wpAny (model X.prog X.w) X.A (assignInOrder ((assignEach ts X.env).map (·.2)) us) (λ_ s'=>∃ σ' H',Inv X pins σ' H' s'/\Q σ' H') X.xe s
abbrev Qz:=V->V->V->Hp->(Hp->Prop)->Prop
def Tz(X:Cx)(t:Qz):Prop :=
 ∀(pins:List (Addr×Obj)) (s:Shared) (σ:St) (H:Hp) (o i v:V) (ov iv u:Value) (Q:Hp->Prop),Inv X pins σ H s->RelV o ov->RelV i iv->RelV v u->t o i v H Q →
  wpAny (model X.prog X.w) X.A (setItem ov iv u) (λ_ s'=>∃H',Inv X pins σ H' s'/\Q H') X.xe s
section
variable{X:Cx}{pos:Pos}
def JW(i:Nat):TG:=λv σ H Q=>Q (σ.set i (some v)) H
theorem aM{i:Nat}{x:Str}(hN:X.N.Nodup)(hi:X.N[i]? =some x)(hx:Loc X.env.scope x)(hf:X.fn x=true\/X.env.scope.names.lookup x=some .local:=by first|exact .inl rfl|exact .inr rfl|assumption):PG X (.Name x pos) (JW i):=by
 intro pins s σ H v u Q I r h
 exact wpAny_assign_Name (wM I hN hi hx r (λs' I'=>⟨_,H,I',h⟩) hf)
def Yw:Ni:=λvs σ H Q=>vs=[]/\Q σ H
def Tf(t:TG)(u:Ni):Ni:=λvs σ H Q=>∃v r,vs=v::r/\t v σ H λσ' H'=>u r σ' H' Q
theorem lD:TF X [] Yw:=by
 intro pins s σ H vs us Q I r h
 obtain⟨e,h⟩:=h
 subst e
 cases r
 exact assignInOrder_nil ⟨σ,H,I,h⟩
theorem bS{e:Expr}{es:List Expr}{t:TG}{u:Ni}(h1:PG X e t)(h2:TF X es u)
  (hs:(assignEach (e::es) X.env).map (·.2)=assign e X.env::(assignEach es X.env).map (·.2):=by rfl):TF X (e::es) (Tf t u):=by
 intro pins s σ H vs us Q I r h
 obtain⟨v,vr,e1,h⟩:=h
 subst e1
 cases r with
 |cons r rr =>
  rw[hs]
  refine assignInOrder_cons (fh (h1 pins s σ H _ _ _ I r h) λ_ s1 ⟨σ1,H1,I1,q1⟩=>?_)
  exact h2 pins s1 σ1 H1 _ _ Q I1 rr q1
def Td(K:PySem.W.Frag)(n:Nat)(t:Ni):TG:=λv σ H Q=>∃a xs,v= .ref a/\dR K H a xs/\xs.length=n/\t xs σ H Q
theorem pX{es:List Expr}{k:Nat}{t:Ni}{n:Nat}(hc:X.calm=true)(h:TF X es t)
  (hn:(assignEach es X.env).length=n:=by rfl) (hst:(assignEach es X.env).findIdx? (·.1)=none:=by rfl):PG X (.Tuple es k pos) (Td X.K n t):=by
 intro pins s σ H v u Q I r hw
 obtain⟨a,xs,e1,hq,hl,hw⟩:=hw
 subst e1
 cases r
 obtain⟨its,rv,ht,hz⟩:=I.tuple hq
 refine assign_Tuple_tuple (I.ok.hd hc) ht (by simp[hn,←hl,rv.length]) hst λh' hx=>?_
 have I1:Inv X pins σ H { s with heap:=h' }:=I.kept (t':=s.toks) λb o e=>hx b o (Nat.ne_of_lt (Heap.lt_size e)) e
 exact h pins _ σ H xs _ Q I1 (by simpa using rv) hw
def Yv(to ti:TE)(t:Qz):TG:=λv σ H Q=>to σ H λo H1=>ti σ H1 λi H2=>t o i v H2 λH3=>Q σ H3
theorem AB{o i:Expr}{to ti:TE}{t:Qz}(ho:PE X o to)(hi:PE X i ti)(hs:Tz X t)
  (ha:∀v,assign (.Subscript o i pos) X.env v=(do
   let ov ←holding [v] (eval o X.env)
   let iv ←holding [v,ov] (eval i X.env)
   standAt pos
   holding [v,ov,iv] (setItem ov iv v)
   release [v,ov,iv] []):=by intro _;rfl):PG X (.Subscript o i pos) (Yv to ti t):=by
 intro pins s σ H v u Q I r h
 rw[ha]
 refine wpAny_bind (wpAny_holding (fh (ho pins s σ H _ I h) λov s1 ⟨x,H1,I1,r1,q1⟩=>?_))
 refine wpAny_bind (wpAny_holding (fh (hi pins s1 σ H1 _ I1 q1) λiv s2 ⟨y,H2,I2,r2,q2⟩=>?_))
 refine wpAny_bind (wpAny_standAt (wpAny_bind (wpAny_holding (fh (hs pins s2 σ H2 x y v ov iv u _ I2 r1 r2 r q2) λ_ s3 ⟨H3,I3,q3⟩=>?_))))
 exact wpAny_release ⟨σ,H3,I3,q3⟩
def OT(te:TE)(g:TG):TS:=λD σ H=>te σ H λx H1=>g x σ H1 D.nx
theorem uw{tg e:Expr}{te:TE}{g:TG}(he:PE X e te)(hg:PG X tg g)(hs:swapsWithSole [tg] e pos.line X.env=pure false:=by rfl)(hw:swappedStores [tg] e X.env=pure none:=by rfl)
  (h1:(assignEach [tg] X.env).map (·.2)=[assign tg X.env]:=by rfl):PS X (.Assign [tg] e pos) (OT te g):=by
 intro pins s σ H D I h
 refine wpAny_Assign_stores (fh (he pins s σ H _ I h) λv s1 ⟨x,H1,I1,r1,q1⟩=>?_) hs hw
 rw[h1]
 exact fh (hg pins s1 σ H1 x v _ I1 r1 q1) λ_ s2 q=>q
theorem aD{i:Nat}{x:Str}{e:Expr}{te:TE}{pos':Pos}(hN:X.N.Nodup)(hi:X.N[i]? =some x)(hx:Loc X.env.scope x)(he:PE X e te)(hs:swapsWith e (some (.Name x pos')) pos.line X.env=pure false:=by rfl)(hf:X.fn x=true\/X.env.scope.names.lookup x=some .local:=by first|exact .inl rfl|exact .inr rfl|assumption):
  PS X (.Assign [.Name x pos'] e pos) (OT te (JW i)):=by
 intro pins s σ H D I h
 refine wpAny_Assign_Name (fh (he pins s σ H _ I h) λv s1 ⟨y,H1,I1,r1,q1⟩=>?_) hs
 exact wM I1 hN hi hx r1 (λs2 I2=>⟨_,H1,I2,q1⟩) hf
end
section
variable{X:Cx}{pos:Pos}
def ON(c:TT)(tb:TS):TS:=λD σ H=>∃W:Nat->St->Hp->Prop,(∃m,W m σ H)/\∀m σ H,W m σ H →
 c σ H λb H1=>if b=true then ∃N:St->Hp->Prop,(∀ σ' H',N σ' H'->∃m',m'<m/\W m' σ' H')/\tb { D with nx:=N,ct:=N,bk:=D.nx } σ H1 else D.nx σ H1
theorem Cy{c:Expr}{body:List Stmt}{tc:TT}{tb:TS}(hp:PassesOwn (model X.prog X.w) X.A X.env X.xe)(hc:PT X c tc)(hb:Aa X body tb):PS X (.While c body [] pos) (ON tc tb):=by
 intro pins s σ H D I h
 obtain⟨W,⟨m0,w0⟩,turn⟩:=h
 refine wpAny_While (codeAny_whileLoop (λn s'=>∃ σ' H',Inv X pins σ' H' s'/\W n σ' H') ?_ m0 ⟨σ,H,I,w0⟩)
 rintro n s1 ⟨σ1,H1,I1,w1⟩
 refine wpAny_passesOwn hp (fh (hc pins s1 σ1 H1 _ I1 (turn n σ1 H1 w1)) λb s2 ⟨H2,I2,q2⟩=>?_)
 cases b with
 |true =>
  obtain⟨N,hN,q2⟩:=q2
  rw[if_pos rfl]
  refine wpAny_passesOwn hp (fh (hb pins s2 σ1 H2 _ I2 q2) λf s3 q3=>?_)
  cases f with
  |next =>
   obtain⟨σ3,H3,I3,n3⟩:=q3
   obtain⟨m',hm,w3⟩:=hN σ3 H3 n3
   exact⟨m',hm,σ3,H3,I3,w3⟩
  |cont =>
   obtain⟨σ3,H3,I3,n3⟩:=q3
   obtain⟨m',hm,w3⟩:=hN σ3 H3 n3
   exact⟨m',hm,σ3,H3,I3,w3⟩
  |brk=>exact q3
  |ret v=>exact q3
 |false =>
  rw[if_neg Bool.false_ne_true]
  exact wpAny_execs_nil ⟨σ1,H2,I2,q2⟩
end
structure It where
 go:Nat->Hp->Prop
 Ad:Nat->Hp->V->Hp->Prop
 stop:Nat->Hp->Prop
def pK(X:Cx)(pins:List (Addr×Obj))(H:Hp)(b:Addr):Prop :=
 H b=none/\b≠X.env.locals/\b∉X.fs/\(b∈X.ex\/X.s₀.heap.objs.size<=b)/\(∀x c,X.env.cells.lookup x=some c->c≠b)/\∀p∈X.pn++pins,p.1≠b
theorem Inv.vQ{X:Cx}{pins:List (Addr×Obj)}{σ:St}{H H':Hp}{s:Shared}{b:Addr}(I:Inv X pins σ H s)(hb:s.heap.objs.size<=b)(hn:H' b=none):pK X pins H' b:=by
 refine⟨hn,Nat.ne_of_gt (Nat.lt_of_lt_of_le I.lt hb),I.WS hb,.inr (Nat.le_trans I.sz hb),λx c e z=>?_,λp hp z=>?_⟩
 ·obtain⟨v,q⟩:=I.cell x c e
  exact absurd (Nat.lt_of_lt_of_le q.lt (by rw[z];exact hb)) (Nat.lt_irrefl _)
 ·exact absurd (Nat.lt_of_lt_of_le (Heap.lt_size (I.pin p hp).1) (by rw[z];exact hb)) (Nat.lt_irrefl _)
structure Turn(P:Program)(w:World)(K:PySem.W.Frag)(tg:Expr)(J:It)(fp:List Addr)(it:Addr)(tn:Nat->Heap->Prop):Prop where
 mem:it∈fp
 obj:∀i h,tn i h->∀b∈fp,∃o,h.get? b=some o/\∀v,o.data≠ .cell v
 keep:∀i h h',tn i h->(∀b∈fp,∀o,h.get? b=some o->h'.get? b=some o)->tn i h'
 item:∀(X:Cx),X.prog=P->X.w=w->X.K=K->X.calm=true->∀(i:Nat) (pins:List (Addr×Obj)) (s:Shared) (σ:St) (H:Hp) (E:Value->Shared->Prop),Inv X pins σ H s->(∀b∈fp,pK X pins H b)->tn i s.heap->J.go i H →
  wpAny (model P w) X.A (pyNext (.ref it)) (λr s1=>∃u,r=some u ∧
   wpAny (model P w) X.A (letOwnedTupleGo tg (.ref it) u) (λ_ s2=>∃x H',Inv X pins σ H' s2/\RelV x u/\J.Ad i H x H'/\tn (i+1) s2.heap/\∀b∈fp,H' b=none) E s1) E s
 done:∀(X:Cx),X.prog=P->X.w=w->X.K=K->X.calm=true->∀(i:Nat) (pins:List (Addr×Obj)) (s:Shared) (σ:St) (H:Hp) (E:Value->Shared->Prop),Inv X pins σ H s->(∀b∈fp,pK X pins H b)->tn i s.heap->J.stop i H →
  wpAny (model P w) X.A (pyNext (.ref it)) (λr s1=>r=none/\Inv X pins σ H s1) E s
 self:∀(A:Around) (i:Nat) (s:Shared) (Q:Value->Shared->Prop) (E:Value->Shared->Prop),tn i s.heap->Q (.ref it) s->wpAny (model P w) A (pyIter (.ref it)) Q E s
abbrev TI:=St->Hp->(It->Hp->Prop)->Prop
def PIE(X:Cx)(pins:List (Addr×Obj))(σ:St)(tg:Expr)(R:It->Hp->Prop)(itv:Value)(s2:Shared):Prop :=
 ∃(it:Addr) (fp:List Addr) (tn:Nat->Heap->Prop) (J:It) (H':Hp),itv= .ref it/\Inv X pins σ H' s2/\Turn X.prog X.w X.K tg J fp it tn/\tn 0 s2.heap/\(∀b∈fp,pK X pins H' b)/\R J H'
def PI(X:Cx)(tg iter:Expr)(wi:TI):Prop :=
 ∀(pins:List (Addr×Obj)) (s:Shared) (σ:St) (H:Hp) (R:It->Hp->Prop),Inv X pins σ H s->wi σ H R →
  wpAny (model X.prog X.w) X.A (eval iter X.env) (λv s1=>wpAny (model X.prog X.w) X.A (pyIter v) (PIE X pins σ tg R) X.xe s1) X.xe s
theorem Df{M:Model}{A:Around}{E:Value->Shared->Prop}{s:Shared}{tg:Expr}{it:Addr}{u:Value}{o:Obj}{n:String}{vs:Array Value}{Q:Unit->Shared->Prop}(ho:s.heap.get? it=some o)(hc:o.cls= .type n)(hd:o.data= .fields vs)
  (hn:["enumerate","zip","dict_itemiterator","dict_reverseitemiterator","odict_iterator","itertools.zip_longest","itertools.pairwise"].contains n=false) (hQ:Q () s):wpAny M A (letOwnedTupleGo tg (.ref it) u) Q E s:=by
 unfold letOwnedTupleGo
 cases tg<;>first
  |exact wpAny_pure hQ
  |(cases u<;>first
    |exact wpAny_pure hQ
    |(refine wpAny_bind (wpAny_load ho ?_)
      rw[hc,hd]
      show wpAny M A (if(["enumerate","zip","dict_itemiterator","dict_reverseitemiterator","odict_iterator","itertools.zip_longest","itertools.pairwise"].contains n&&vs[0]? ==some (rawInt _))=true then _ else _) Q E s
      rw[if_neg (by intro h;rw[hn,Bool.false_and]at h;cases h)]
      exact wpAny_pure hQ))
def TX(K:PySem.W.Frag)(a:Addr):It :=
 ⟨λi H=>∃xs x,bI K H a xs/\xs[i]? =some x,λi H x H'=>H'=H/\∀xs,bI K H a xs->xs[i]? =some x,λi H=>∃xs,bI K H a xs/\xs.length<=i⟩
def TV(K:PySem.W.Frag)(a:Addr):It :=
 ⟨λi H=>∃xs x,dR K H a xs/\xs[i]? =some x,λi H x H'=>H'=H/\∀xs,dR K H a xs->xs[i]? =some x,λi H=>∃xs,dR K H a xs/\xs.length<=i⟩
def Q3(lo:Int)(n:Nat):It:=⟨λi _=>i<n,λi H x H'=>H'=H/\x= .int (lo+i),λi _=>n<=i⟩
theorem zq{P:Program}{w:World}{K:PySem.W.Frag}{tg:Expr}(a it:Addr):Turn P w K tg (TX K a) [it] it (λi h=>h.IsListIter it a i) where
 mem:=by simp
 obj:=λi h st b hb=>by
  have e:b=it:=by simpa using hb
  subst e
  obtain⟨o,e,c,d⟩:=st
  exact⟨o,e,λv z=>by rw[d]at z;cases z⟩
 keep:=λi h h' st k=>st.at λo e=>k it (by simp) o e
 item:=by
  intro X hP hw hK hc i pins s σ H E I hf st hg
  subst hP hw hK
  obtain⟨xs,x,hq,hx⟩:=hg
  obtain⟨its,rv,p,hz⟩:=I.list hq
  obtain⟨u,hu,ru⟩:=rv.get hx
  obtain⟨f0,f1,f2,f3,f4,f5⟩:=hf it (by simp)
  refine wpAny_pyNext_list_item st p.isList (x:=u) (by simpa using hu) λh' st' sb=>?_
  have I1:Inv X pins σ H { s with heap:=h' }:=I.turned (t':=s.toks) (λb o hb e=>(sb.2 b hb).trans e) f0 f1 f3 f4 f5
  obtain⟨o,e,c,d⟩:=id st'
  exact⟨u,rfl,Df (s:={ s with heap:=h' }) e c d (by decide) ⟨x,H,I1,ru,⟨rfl,λys hy=>by rw[I.xM hy hq];exact hx⟩,st',λb hb=>(hf b hb).1⟩⟩
 done:=by
  intro X hP hw hK hc i pins s σ H E I hf st hg
  subst hP hw hK
  obtain⟨xs,hq,hx⟩:=hg
  obtain⟨its,rv,p,hz⟩:=I.list hq
  obtain⟨f0,f1,f2,f3,f4,f5⟩:=hf it (by simp)
  have hl:=rv.length
  exact wpAny_pyNext_list_end (I.ok.hd hc) st p.isList (by simp;omega) λh' eb=>⟨rfl,I.turned (t':=s.toks) (λb o hb e=>eb b o hb e) f0 f1 f3 f4 f5⟩
 self:=λ_ _ _ _ _ st h=>wpAny_pyIter_listiter st h
theorem wK{P:Program}{w:World}{K:PySem.W.Frag}{tg:Expr}(a it:Addr):Turn P w K tg (TV K a) [it] it (λi h=>h.IsTupleIter it a i) where
 mem:=by simp
 obj:=λi h st b hb=>by
  have e:b=it:=by simpa using hb
  subst e
  obtain⟨o,e,c,d⟩:=st
  exact⟨o,e,λv z=>by rw[d]at z;cases z⟩
 keep:=λi h h' st k=>st.at λo e=>k it (by simp) o e
 item:=by
  intro X hP hw hK hc i pins s σ H E I hf st hg
  subst hP hw hK
  obtain⟨xs,x,hq,hx⟩:=hg
  obtain⟨its,rv,p,hz⟩:=I.tuple hq
  obtain⟨u,hu,ru⟩:=rv.get hx
  obtain⟨f0,f1,f2,f3,f4,f5⟩:=hf it (by simp)
  refine wpAny_pyNext_tuple_item st (show s.heap.IsTuple a its.toArray from p) (x:=u) (by simpa using hu) λh' st' sb=>?_
  have I1:Inv X pins σ H { s with heap:=h' }:=I.turned (t':=s.toks) (λb o hb e=>(sb.2 b hb).trans e) f0 f1 f3 f4 f5
  obtain⟨o,e,c,d⟩:=id st'
  exact⟨u,rfl,Df (s:={ s with heap:=h' }) e c d (by decide) ⟨x,H,I1,ru,⟨rfl,λys hy=>by rw[I.zu hy hq];exact hx⟩,st',λb hb=>(hf b hb).1⟩⟩
 done:=by
  intro X hP hw hK hc i pins s σ H E I hf st hg
  subst hP hw hK
  obtain⟨xs,hq,hx⟩:=hg
  obtain⟨its,rv,p,hz⟩:=I.tuple hq
  obtain⟨f0,f1,f2,f3,f4,f5⟩:=hf it (by simp)
  have hl:=rv.length
  exact wpAny_pyNext_tuple_end (I.ok.hd hc) st (show s.heap.IsTuple a its.toArray from p) (by simp;omega) λh' eb=>⟨rfl,I.turned (t':=s.toks) (λb o hb e=>eb b o hb e) f0 f1 f3 f4 f5⟩
 self:=λ_ _ _ _ _ st h=>wpAny_pyIter_tupleiter st h
theorem D4{P:Program}{w:World}{K:PySem.W.Frag}{tg:Expr}(it:Addr)(lo:Int)(n:Nat):Turn P w K tg (Q3 lo n) [it] it (λi h=>IsRangeIter h it (lo+(i:Nat)*1) ((n:Int)-(i:Nat)) 1) where
 mem:=by simp
 obj:=λi h st b hb=>by
  have e:b=it:=by simpa using hb
  subst e
  exact⟨_,st,λv z=>by
   have z':Data.fields _=Data.cell v:=z
   cases z'⟩
 keep:=λi h h' st k=>k it (by simp) _ st
 item:=by
  intro X hP hw hK hc i pins s σ H E I hf st hg
  subst hP hw hK
  obtain⟨f0,f1,f2,f3,f4,f5⟩:=hf it (by simp)
  have W:=Walks.range (prog:=X.prog) (w:=X.w) (I.ok.hd hc) it lo 1 n
  refine TK.bY (Nat.le_refl s.toks) (W.item i s _ _ hg st λv h' tk hv st' kk hup=>?_)
  obtain⟨t,rfl⟩:=hv
  have I1:Inv X pins σ H { s with heap:=h',toks:=tk }:=I.turned (λb o hb e=>kk b o (by simpa using hb) e) f0 f1 f3 f4 f5
  refine⟨_,rfl,Df (s:={ s with heap:=h',toks:=tk }) (n:= "range_iterator") st' rfl rfl (by decide) ⟨.int (lo+i),H,I1,⟨t,?_⟩,⟨rfl,rfl⟩,st',λb hb=>(hf b hb).1⟩⟩
  rw[Int.mul_one]
 done:=by
  intro X hP hw hK hc i pins s σ H E I hf st hg
  subst hP hw hK
  obtain⟨f0,f1,f2,f3,f4,f5⟩:=hf it (by simp)
  exact wpAny_pyNext_range_end (I.ok.hd hc) st (by have:n<=i:=hg;omega) λh' eb=>⟨rfl,I.turned (t':=s.toks) (λb o hb e=>eb b o hb e) f0 f1 f3 f4 f5⟩
 self:=λ_ _ _ _ _ st h=>wpAny_pyIter_rangeiter st h
end L2
namespace L2
open PySem PySem.Spec PyProof.Rows
section
variable{X:Cx}{tg:Expr}
def Sv(K:PySem.W.Frag)(tl:TE):TI:=λσ H R=>tl σ H λx H1=>∃a,x= .ref a/\(∃xs,bI K H1 a xs)/\R (TX K a) H1
def Xj(K:PySem.W.Frag)(tl:TE):TI:=λσ H R=>tl σ H λx H1=>∃a,x= .ref a/\(∃xs,dR K H1 a xs)/\R (TV K a) H1
theorem jn{l:Expr}{tl:TE}(hl:PE X l tl):PI X tg l (Sv X.K tl):=by
 intro pins s σ H R I h
 refine fh (hl pins s σ H _ I h) λv s1 ⟨x,H1,I1,r1,q1⟩=>?_
 obtain⟨a,e,⟨xs,hq⟩,q⟩:=q1
 subst e
 cases r1
 obtain⟨its,rv,p,hz⟩:=I1.list hq
 refine wpAny_pyIter_list p.isList ?_
 refine⟨s1.heap.objs.size,[s1.heap.objs.size],_,_,H1,rfl,I1.kept (t':=s1.toks) λb o e=>Heap.get?_push_of_some _ e,zq a _,⟨_,Heap.get?_push_size _ rfl,rfl,rfl⟩,λb hb=>?_,q⟩
 have e:b=s1.heap.objs.size:=by simpa using hb
 subst e
 exact I1.vQ (Nat.le_refl _) (I1.hok.fresh (Nat.le_refl _))
theorem O4{l:Expr}{tl:TE}(hl:PE X l tl):PI X tg l (Xj X.K tl):=by
 intro pins s σ H R I h
 refine fh (hl pins s σ H _ I h) λv s1 ⟨x,H1,I1,r1,q1⟩=>?_
 obtain⟨a,e,⟨xs,hq⟩,q⟩:=q1
 subst e
 cases r1
 obtain⟨its,rv,p,hz⟩:=I1.tuple hq
 refine wpAny_pyIter_tuple (show s1.heap.IsTuple a its.toArray from p) ?_
 refine⟨s1.heap.objs.size,[s1.heap.objs.size],_,_,H1,rfl,I1.kept (t':=s1.toks) λb o e=>Heap.get?_push_of_some _ e,wK a _,⟨_,Heap.get?_push_size _ rfl,rfl,rfl⟩,λb hb=>?_,q⟩
 have e:b=s1.heap.objs.size:=by simpa using hb
 subst e
 exact I1.vQ (Nat.le_refl _) (I1.hok.fresh (Nat.le_refl _))
theorem IX{pins:List (Addr×Obj)}{σ:St}{H:Hp}{s:Shared}{R:It->Hp->Prop}{E:Value->Shared->Prop}{lo hi:Int}{t u v:Tok}{tk:Nat}(I:Inv X pins σ H s)(h1: -(2 ^ 62)<=lo)(h2:lo<2 ^ 62)(h3: -(2 ^ 62)<=hi)(h4:hi<2 ^ 62)
  (q:R (Q3 lo (hi-lo).toNat) H) (htk:s.toks<=tk:=by first|exact Nat.le_refl _|exact Nat.le_succ _|assumption|omega):wpAny (model X.prog X.w) X.A (pyIter (.ref s.heap.objs.size)) (PIE X pins σ tg R) E { s with heap:=s.heap.push { cls:=.type "range",data:=.fields #[.int lo t,.int hi u,.int 1 v] },toks:=tk }:=by
 refine wpAny_pyIter_range (IsRange.new ..) (small_one h1 h2 h3 h4) ?_
 have I1:Inv X pins σ H { s with heap:=s.heap.push { cls:=.type "range",data:=.fields #[.int lo t,.int hi u,.int 1 v] },toks:=tk }:=I.kept λb o e=>Heap.get?_push_of_some _ e
 refine⟨(s.heap.push { cls:=.type "range",data:=.fields #[.int lo t,.int hi u,.int 1 v] }).objs.size,[(s.heap.push { cls:=.type "range",data:=.fields #[.int lo t,.int hi u,.int 1 v] }).objs.size],_,_,H,rfl,
  I1.kept (t':=tk) λb o e=>Heap.get?_push_of_some _ e,D4 _ lo (hi-lo).toNat,?_,λb hb=>?_,q⟩
 ·have e1:lo+((0:Nat):Int)*1=lo:=by simp
  have e2:(((hi-lo).toNat:Nat):Int)-((0:Nat):Int)=Builtin.Range.rangeSize lo hi 1:=by rw[rangeSize_one];split<;>omega
  show IsRangeIter _ _ (lo+((0:Nat):Int)*1) ((((hi-lo).toNat:Nat):Int)-((0:Nat):Int)) 1
  rw[e1,e2]
  exact Heap.get?_push_size _ rfl
 ·have e:b=(s.heap.push { cls:=.type "range",data:=.fields #[.int lo t,.int hi u,.int 1 v] }).objs.size:=by simpa using hb
  subst e
  exact I1.vQ (Nat.le_refl _) (I1.hok.fresh (Nat.le_refl _))
def Su(ta:TA):TI:=λσ H R=>ta σ H λvs H1=>∃j:Int,vs=[.int j]/\ -(2 ^ 62)<=j/\j<2 ^ 62/\R (Q3 0 j.toNat) H1
theorem gi {a:Expr} {ta:TA} {p pos:Pos} (hg:Gl X "range") (hm:X.mg "range" =none) (ha:PA X [a] ta) (hs:starEach [a] X.env=[(false,eval a X.env)]:=by rfl):PI X tg (.Call (.Name "range" p) [a] [] pos) (Su ta):=by
 intro pins s σ H R I h
 refine Call_ (qi I hg hm boot_range (PyProof.Rows.callWith_type1 (fh (ha pos pins s σ H _ I h) λus s1 ⟨vs,H1,I1,r1,q1⟩=>?_) hs rfl))
 obtain⟨j,e,q1,q2,q⟩:=q1
 subst e
 cases r1 with
 |cons r rr =>
  cases rr
  obtain⟨t,rfl⟩:=r
  exact call_range_1 (IX I1 (by omega) (by omega) q1 q2 (by simpa using q))
def Wr(wi:TI)(g:TG)(tb:TS):TS:=λD σ H=>wi σ H λJ H1=>∃W:Nat->Nat->St->Hp->Prop,(∃m,W 0 m σ H1)/\∀i m σ H,W i m σ H →
 (J.stop i H/\D.nx σ H)\/(J.go i H/\∃N:St->Hp->Prop,(∀ σ' H',N σ' H'->∃m',m'<m/\W (i+1) m' σ' H')/\∀x H',J.Ad i H x H'->g x σ H' λσ2 H2=>tb { D with nx:=N,ct:=N,bk:=D.nx } σ2 H2)
def Ay(fp:List Addr)(h:Heap):List (Addr×Obj):=fp.filterMap λb=>(h.get? b).map λo=>(b,o)
theorem iI{fp:List Addr}{h:Heap}{b:Addr}{o:Obj}(hb:b∈fp)(e:h.get? b=some o):(b,o)∈Ay fp h:=List.mem_filterMap.mpr ⟨b,hb,by rw[e];rfl⟩
theorem GW{fp:List Addr}{h:Heap}{p:Addr×Obj}(hp:p∈Ay fp h):p.1∈fp/\h.get? p.1=some p.2:=by
 obtain⟨b,hb,e⟩:=List.mem_filterMap.mp hp
 cases q:h.get? b with
 |none=>rw[q]at e;cases e
 |some o =>
  rw[q]at e
  have e':(b,o)=p:=Option.some.inj e
  subst e'
  exact⟨hb,q⟩
theorem Inv.pinned{pins:List (Addr×Obj)}{σ:St}{H:Hp}{s:Shared}{fp:List Addr}(I:Inv X pins σ H s)(hf:∀b∈fp,pK X pins H b)(ho:∀b∈fp,∃o,s.heap.get? b=some o/\∀v,o.data≠ .cell v):Inv X (pins++Ay fp s.heap) σ H s :=
 I.Ax λp hp=>(List.mem_append.mp hp).elim (λz=>I.pin p (List.mem_append_right _ z)) λz=>by
  obtain⟨hb,e⟩:=GW z
  obtain⟨f0,f1,f2,_⟩:=hf p.1 hb
  obtain⟨o,e',d⟩:=ho p.1 hb
  rw[e]at e';cases e'
  exact⟨e,f0,f1,f2,d⟩
theorem Inv.wH{pins pl:List (Addr×Obj)}{σ:St}{H:Hp}{s:Shared}(I:Inv X (pins++pl) σ H s):Inv X pins σ H s:=I.Ax λp hp=>I.pin p (List.mem_append_right _ (List.mem_append_left _ hp))
theorem eW{iter:Expr}{body:List Stmt}{wi:TI}{g:TG}{tb:TS}{pos:Pos}(hp:PassesOwn (model X.prog X.w) X.A X.env X.xe)(hc:X.calm=true)(hi:PI X tg iter wi)(hg:PG X tg g)(hb:Aa X body tb)
  (hs:∀x,foldedSetIterable iter X.env x=pure x:=by intro _;rfl):PS X (.For tg iter body [] pos) (Wr wi g tb):=by
 intro pins s σ H D I h
 refine wpAny_For (fh (hi pins s σ H _ I h) λv s1 h1=>fh h1 λitv s2 h2=>?_) hs
 obtain⟨it,fp,tn,J,H2,e,I2,T,st2,f2,W,⟨m0,w0⟩,turn⟩:=h2
 subst e
 have stat:∀{H':Hp},(∀b∈fp,H' b=none)->∀b∈fp,pK X pins H' b:=λhn b hb=>⟨hn b hb,(f2 b hb).2⟩
 refine codeAny_forLoop_any (λn s'=>∃i σ' H',Inv X pins σ' H' s'/\tn i s'.heap/\(∀b∈fp,H' b=none)/\W i n σ' H') ?_ m0 ⟨0,σ,H2,I2,st2,λb hb=>(f2 b hb).1,w0⟩
 rintro n s3 ⟨i,σ3,H3,I3,st3,fr3,w3⟩
 rcases turn i n σ3 H3 w3 with⟨stop,qn⟩|⟨go,N,hN,step⟩
 ·refine wpAny_passesOwn hp (fh (T.done X rfl rfl rfl hc i pins s3 σ3 H3 X.xe I3 (stat fr3) st3 stop) λr s4 ⟨hr,I4⟩=>?_)
  subst hr
  exact wpAny_execs_nil ⟨σ3,H3,I4,qn⟩
 ·refine wpAny_passesOwn hp (fh (T.item X rfl rfl rfl hc i pins s3 σ3 H3 X.xe I3 (stat fr3) st3 go) λr s4 ⟨u,hr,h4⟩=>?_)
  subst hr
  refine wpAny_passesOwn hp (fh h4 λ_ s5 ⟨x,H5,I5,r5,y5,Wt,fr5⟩=>?_)
  have I5':=I5.pinned (stat fr5) (T.obj _ _ Wt)
  refine wpAny_passesOwn hp (fh (hg _ s5 σ3 H5 x u _ I5' r5 (step x H5 y5)) λ_ s6 ⟨σ6,H6,I6,q6⟩=>?_)
  refine wpAny_passesOwn hp (fh (hb _ s6 σ6 H6 _ I6 q6) λf s7 q7=>?_)
  have again:∀{BQ:St} {H7:Hp},Inv X (pins++Ay fp s5.heap) BQ H7 s7->N BQ H7->∃m,m<n/\∃i σ' H',Inv X pins σ' H' s7/\tn i s7.heap/\(∀b∈fp,H' b=none)/\W i m σ' H':=λ{BQ H7} I7 n7=>by
   obtain⟨m',hm,w7⟩:=hN BQ H7 n7
   refine⟨m',hm,i+1,BQ,H7,I7.wH,T.keep _ _ _ Wt λb hb o e=>(I7.pin (b,o) (List.mem_append_right _ (List.mem_append_right _ (iI hb e)))).1,λb hb=>?_,w7⟩
   obtain⟨o,e,d⟩:=T.obj _ _ Wt b hb
   exact(I7.pin (b,o) (List.mem_append_right _ (List.mem_append_right _ (iI hb e)))).2.1
  cases f with
  |next=>obtain⟨BQ,H7,I7,n7⟩:=q7;exact again I7 n7
  |cont=>obtain⟨BQ,H7,I7,n7⟩:=q7;exact again I7 n7
  |brk=>obtain⟨BQ,H7,I7,q7⟩:=q7;exact⟨BQ,H7,I7.wH,q7⟩
  |ret v=>obtain⟨x7,BQ,H7,I7,r7,q7⟩:=q7;exact⟨x7,BQ,H7,I7.wH,r7,q7⟩
end
theorem oH{K:PySem.W.Frag}{a:Addr}{xs:List V}{g:TG}{tb:TS}{D:Ends}{σ:St}{H:Hp}(Pv:Nat->St->Hp->Prop)(h0:Pv 0 σ H)(hl:∀i σ H,i<=xs.length->Pv i σ H->bI K H a xs)
  (hs:∀i x σ H,xs[i]? =some x->Pv i σ H->g x σ H λσ2 H2=>tb { D with nx:=Pv (i+1),ct:=Pv (i+1),bk:=D.nx } σ2 H2) (hd:∀ σ H,Pv xs.length σ H->D.nx σ H) :
  ∃W:Nat->Nat->St->Hp->Prop,(∃m,W 0 m σ H)/\∀i m σ H,W i m σ H →
   ((TX K a).stop i H/\D.nx σ H)\/((TX K a).go i H/\∃N:St->Hp->Prop,(∀ σ' H',N σ' H'->∃m',m'<m/\W (i+1) m' σ' H')/\∀x H',(TX K a).Ad i H x H'->g x σ H' λσ2 H2=>tb { D with nx:=N,ct:=N,bk:=D.nx } σ2 H2):=by
 refine⟨λi m σ H=>m=xs.length-i/\i<=xs.length/\Pv i σ H,⟨xs.length,by simp,Nat.zero_le _,h0⟩,?_⟩
 rintro i m σ H ⟨rfl,hi,p⟩
 have q:=hl i σ H hi p
 by_cases hlt:i<xs.length
 ·refine .inr ⟨⟨xs,xs[i],q,by simp[hlt]⟩,Pv (i+1),λσ' H' p'=>⟨xs.length-(i+1),by omega,rfl,hlt,p'⟩,λx H' y=>?_⟩
  obtain⟨e,y⟩:=y
  subst e
  exact hs i x σ _ (y xs q) p
 ·have e:i=xs.length:=by omega
  subst e
  exact .inl ⟨⟨xs,q,Nat.le_refl _⟩,hd σ H p⟩
theorem Mj{K:PySem.W.Frag}{a:Addr}{xs:List V}{g:TG}{tb:TS}{D:Ends}{σ:St}{H:Hp}(Pv:Nat->St->Hp->Prop)(h0:Pv 0 σ H)(hl:∀i σ H,i<=xs.length->Pv i σ H->dR K H a xs)
  (hs:∀i x σ H,xs[i]? =some x->Pv i σ H->g x σ H λσ2 H2=>tb { D with nx:=Pv (i+1),ct:=Pv (i+1),bk:=D.nx } σ2 H2) (hd:∀ σ H,Pv xs.length σ H->D.nx σ H) :
  ∃W:Nat->Nat->St->Hp->Prop,(∃m,W 0 m σ H)/\∀i m σ H,W i m σ H →
   ((TV K a).stop i H/\D.nx σ H)\/((TV K a).go i H/\∃N:St->Hp->Prop,(∀ σ' H',N σ' H'->∃m',m'<m/\W (i+1) m' σ' H')/\∀x H',(TV K a).Ad i H x H'->g x σ H' λσ2 H2=>tb { D with nx:=N,ct:=N,bk:=D.nx } σ2 H2):=by
 refine⟨λi m σ H=>m=xs.length-i/\i<=xs.length/\Pv i σ H,⟨xs.length,by simp,Nat.zero_le _,h0⟩,?_⟩
 rintro i m σ H ⟨rfl,hi,p⟩
 have q:=hl i σ H hi p
 by_cases hlt:i<xs.length
 ·refine .inr ⟨⟨xs,xs[i],q,by simp[hlt]⟩,Pv (i+1),λσ' H' p'=>⟨xs.length-(i+1),by omega,rfl,hlt,p'⟩,λx H' y=>?_⟩
  obtain⟨e,y⟩:=y
  subst e
  exact hs i x σ _ (y xs q) p
 ·have e:i=xs.length:=by omega
  subst e
  exact .inl ⟨⟨xs,q,Nat.le_refl _⟩,hd σ H p⟩
theorem jA{lo:Int}{n:Nat}{g:TG}{tb:TS}{D:Ends}{σ:St}{H:Hp}(Pv:Nat->St->Hp->Prop)(h0:Pv 0 σ H)
  (hs:∀i σ H,i<n->Pv i σ H->g (.int (lo+i)) σ H λσ2 H2=>tb { D with nx:=Pv (i+1),ct:=Pv (i+1),bk:=D.nx } σ2 H2) (hd:∀ σ H,Pv n σ H->D.nx σ H) :
  ∃W:Nat->Nat->St->Hp->Prop,(∃m,W 0 m σ H)/\∀i m σ H,W i m σ H →
   ((Q3 lo n).stop i H/\D.nx σ H)\/((Q3 lo n).go i H/\∃N:St->Hp->Prop,(∀ σ' H',N σ' H'->∃m',m'<m/\W (i+1) m' σ' H')/\∀x H',(Q3 lo n).Ad i H x H'->g x σ H' λσ2 H2=>tb { D with nx:=N,ct:=N,bk:=D.nx } σ2 H2):=by
 refine⟨λi m σ H=>m=n-i/\i<=n/\Pv i σ H,⟨n,by simp,Nat.zero_le _,h0⟩,?_⟩
 rintro i m σ H ⟨rfl,hi,p⟩
 by_cases hlt:i<n
 ·refine .inr ⟨hlt,Pv (i+1),λσ' H' p'=>⟨n-(i+1),by omega,rfl,hlt,p'⟩,λx H' y=>?_⟩
  obtain⟨e,y⟩:=y
  subst e y
  exact hs i σ _ hlt p
 ·have e:i=n:=by omega
  subst e
  exact .inl ⟨Nat.le_refl _,hd σ H p⟩
end L2
namespace L2
open PySem PySem.Spec PyProof.Rows
abbrev R2:=V->V->Hp->VK->Prop
def uQ(X:Cx)(f:Value->Value->Sem Value)(r:R2):Prop :=
 ∀(pins:List (Addr×Obj)) (s:Shared) (σ:St) (H:Hp) (x y:V) (v u:Value) (Q:VK),Inv X pins σ H s->RelV x v->RelV y u->r x y H Q →
  wpAny (model X.prog X.w) X.A (f v u) (EP X pins σ Q) X.xe s
def lP(X:Cx)(f:Value)(r:List V->Hp->VK->Prop):Prop :=
 ∀(pins:List (Addr×Obj)) (s:Shared) (σ:St) (H:Hp) (xs:List V) (us:List Value) (Q:VK),Inv X pins σ H s->Vals xs us->r xs H Q →
  wpAny (model X.prog X.w) X.A (call f us) (EP X pins σ Q) X.xe s
def Ue(r:R2)(ta tb:TE):TE:=λσ H Q=>ta σ H λx H1=>tb σ H1 λy H2=>r x y H2 Q
def rI(C:Int->Int->Prop)(g:Int->Int->V):R2:=λx y H Q=>∃i j,x= .int i/\y= .int j/\C i j/\Q (g i j) H
def O1(g:Int->Int->V):R2:=λx y H Q=>∃i j,x= .int i/\y= .int j/\Q (g i j) H
section
variable{X:Cx}{a b c:Expr}{ta tb tc:TE}{pos:Pos}
theorem Qy(ha:PE X a ta)(hb:PE X b tb){pins:List (Addr×Obj)}{s:Shared}{σ:St}{H:Hp}{R:V->V->Hp->Prop}(I:Inv X pins σ H s)
  (h:ta σ H λx H1=>tb σ H1 λy H2=>R x y H2) {Q:Value->Shared->Prop} {f:Value->Value->Sem Value}
  (hf:∀v u s2 x y H2,Inv X pins σ H2 s2->RelV x v->RelV y u->R x y H2->wpAny (model X.prog X.w) X.A (f v u) Q X.xe s2) :
  wpAny (model X.prog X.w) X.A (eval a X.env) (λv s₁=>wpAny (model X.prog X.w) X.A (eval b X.env) (λu s₂=>wpAny (model X.prog X.w) X.A (f v u) Q X.xe s₂) X.xe s₁) X.xe s:=by
 refine fh (ha pins s σ H _ I h) λv s1 ⟨x,H1,I1,r1,q1⟩=>?_
 refine fh (hb pins s1 σ H1 _ I1 q1) λu s2 ⟨y,H2,I2,r2,q2⟩=>?_
 exact hf v u s2 x y H2 I2 r1 r2 q2
theorem aE{op:Operator}{r:R2}(ho:uQ X (binaryOp op) r)(ha:PE X a ta)(hb:PE X b tb):PE X (.BinOp a op b pos) (Ue r ta tb):=by
 intro pins s σ H Q I h
 exact wpAny_BinOp (Qy ha hb I h λv u s2 x y H2 I2 rx ry q=>ho pins s2 σ H2 x y v u Q I2 rx ry q)
theorem RK{f:Value->Value->Sem Value}{C:Int->Int->Prop}{g:Int->Int->Int}
  (rule:∀(i j:Int) (t u:Tok) (s:Shared) (Q:Value->Shared->Prop) (E:Value->Shared->Prop),C i j->Q (.int (g i j) s.toks) { s with toks:=s.toks+1 }->wpAny (model X.prog X.w) X.A (f (.int i t) (.int j u)) Q E s) :
  uQ X f (rI C λi j=>.int (g i j)):=by
 intro pins s σ H x y v u Q I rx ry h
 obtain⟨i,j,rfl,rfl,hc,q⟩:=h
 obtain⟨t,rfl⟩:=rx
 obtain⟨t',rfl⟩:=ry
 exact rule i j t t' s _ _ hc ⟨.int (g i j),H,I.tok _,⟨_,rfl⟩,q⟩
theorem RJ{f:Value->Value->Sem Value}{g:Int->Int->Int}
  (rule:∀(i j:Int) (t u:Tok) (s:Shared) (Q:Value->Shared->Prop) (E:Value->Shared->Prop),Q (.int (g i j) s.toks) { s with toks:=s.toks+1 }->wpAny (model X.prog X.w) X.A (f (.int i t) (.int j u)) Q E s) :
  uQ X f (O1 λi j=>.int (g i j)):=by
 intro pins s σ H x y v u Q I rx ry h
 obtain⟨i,j,rfl,rfl,q⟩:=h
 obtain⟨t,rfl⟩:=rx
 obtain⟨t',rfl⟩:=ry
 exact rule i j t t' s _ _ ⟨.int (g i j),H,I.tok _,⟨_,rfl⟩,q⟩
theorem O8{f:Value->Value->Sem Value}{g:Int->Int->Bool}
  (rule:∀(i j:Int) (t u:Tok) (s:Shared) (Q:Value->Shared->Prop) (E:Value->Shared->Prop),Q (.bool (g i j)) s->wpAny (model X.prog X.w) X.A (f (.int i t) (.int j u)) Q E s) :
  uQ X f (O1 λi j=>.bl (g i j)):=by
 intro pins s σ H x y v u Q I rx ry h
 obtain⟨i,j,rfl,rfl,q⟩:=h
 obtain⟨t,rfl⟩:=rx
 obtain⟨t',rfl⟩:=ry
 exact rule i j t t' s _ _ ⟨.bl (g i j),H,I,rfl,q⟩
def YX(i j:Int):Prop:=0<j/\j<1073741824
def YW(i j:Int):Prop:=0<=j/\j<=1000000/\i.natAbs<2 ^ 64
def QE(i j:Int):Prop:=(-(2 ^ 64)<i/\i<2 ^ 64)\/(-(2 ^ 64)<j/\j<2 ^ 64)
theorem QE.ok{i j:Int}(h:QE i j):IntMulOk i j:=by
 rcases h with⟨h1,h2⟩|⟨h1,h2⟩
 ·exact .of_left (intBits_le_64 h1 h2)
 ·exact .of_right (intBits_le_64 h1 h2)
theorem dM:uQ X (binaryOp .Add) (O1 λi j=>.int (i+j)):=RJ λ_ _ _ _ _ _ _ q=>add_int q
theorem mV:uQ X (binaryOp .Sub) (O1 λi j=>.int (i-j)):=RJ λ_ _ _ _ _ _ _ q=>sub_int q
theorem mW:uQ X (binaryOp .Mult) (rI QE λi j=>.int (i*j)):=RK λ_ _ _ _ _ _ _ hc q=>mul_int q hc.ok
theorem dG:uQ X (binaryOp .FloorDiv) (rI YX λi j=>.int (i / j)):=RK λi j _ _ _ _ _ hc q=>by
 have h1:(0:Int)<j:=hc.1
 have h2:j<1073741824:=hc.2
 exact floordiv_int (by omega) (by rw[Int.fdiv_eq_ediv_of_nonneg i (by omega)];exact q) (.inl (PyProof.noPylong_small (by omega)))
theorem cj:uQ X (binaryOp .Mod) (rI (λ_ j=>0<j) λi j=>.int (i % j)):=RK λi j _ _ _ _ _ hc q=>by
 have h1:(0:Int)<j:=hc
 exact mod_int' (by omega) (by rw[Int.fmod_eq_emod_of_nonneg i (by omega)];exact q)
theorem AG:uQ X (binaryOp .Pow) (rI YW λi j=>.int (i ^ j.toNat)):=RK λ_ _ _ _ _ _ _ hc q=>pow_int_small hc.1 hc.2.1 hc.2.2 q
end
def Ry:V->V->Bool
 | .iz,.iz=>true| .iz,.int _=>true| .int _,.iz=>true| .iz,.bl _=>true| .bl _,.iz=>true| .iz,.str _=>true| .str _,.iz=>true
 | .int _,.int _=>true| .bl _,.bl _=>true| .str _,.str _=>true| .Gq _,.Gq _=>true
 | .int _,.str _=>true| .str _,.int _=>true| .bl _,.str _=>true| .str _,.bl _=>true
 |_,_=>false
def rEq:R2:=λx y H Q=>Ry x y=true/\Q (.bl (decide (x=y))) H
def rNe:R2:=λx y H Q=>Ry x y=true/\Q (.bl (!decide (x=y))) H
theorem kg{i j:Int}:decide (V.int i=V.int j)=(i==j):=by
 rw[Bool.eq_iff_iff]
 simp
theorem Kl{i j:Bool}:decide (V.bl i=V.bl j)=(i==j):=by
 rw[Bool.eq_iff_iff]
 simp
theorem Gm{i j:Str}:decide (V.str i=V.str j)=(i==j):=by
 rw[Bool.eq_iff_iff]
 simp
theorem Gn{i j:Array UInt8}:decide (V.Gq i=V.Gq j)=(i.toList==j.toList):=by
 rw[Bool.eq_iff_iff]
 cases i
 cases j
 simp
section
variable{X:Cx}{a b c:Expr}{ta tb tc:TE}{pos:Pos}
theorem bZ{pins:List (Addr×Obj)}{σ:St}{H:Hp}{s:Shared}{Q:VK}{k k':Bool}(I:Inv X pins σ H s)(q:Q (.bl k) H)(e:k=k'):EP X pins σ Q (.bool k') s:=by
 subst e
 exact⟨.bl k,H,I,rfl,q⟩
theorem cH:uQ X (compareOp .Eq) rEq:=by
 intro pins s σ H x y v u Q I rx ry h
 obtain⟨hs,q⟩:=h
 cases x with
 |iz =>
  cases rx
  cases y with
  |iz=>cases ry;exact PySem.EqNone.eq_none_none (bZ I q (by simp))
  |bl j=>cases ry;exact PySem.EqNone.eq_none_bool (bZ I q (by simp))
  |int j=>obtain⟨t',rfl⟩:=ry;exact PySem.EqNone.eq_none_int (bZ I q (by simp))
  |str j=>obtain⟨t',rfl⟩:=ry;exact PySem.EqNone.eq_none_str (bZ I q (by simp))
  |_=>exact absurd (show false=true from hs) Bool.false_ne_true
 |bl i =>
  cases rx
  cases y with
  |iz=>cases ry;exact PySem.EqNone.eq_bool_none (bZ I q (by simp))
  |bl j=>cases ry;exact eq_bool (bZ I q Kl)
  |str j=>obtain⟨t',rfl⟩:=ry;exact PySem.EqMixed.eq_bool_str (bZ I q (by simp))
  |_=>exact absurd (show false=true from hs) Bool.false_ne_true
 |int i =>
  obtain⟨t,rfl⟩:=rx
  cases y with
  |iz=>cases ry;exact PySem.EqNone.eq_int_none (bZ I q (by simp))
  |int j=>obtain⟨t',rfl⟩:=ry;exact eq_int (bZ I q kg)
  |str j=>obtain⟨t',rfl⟩:=ry;exact PySem.EqMixed.eq_int_str (bZ I q (by simp))
  |_=>exact absurd (show false=true from hs) Bool.false_ne_true
 |str i =>
  obtain⟨t,rfl⟩:=rx
  cases y with
  |iz=>cases ry;exact PySem.EqNone.eq_str_none (bZ I q (by simp))
  |bl j=>cases ry;exact PySem.EqMixed.eq_str_bool (bZ I q (by simp))
  |int j=>obtain⟨t',rfl⟩:=ry;exact PySem.EqMixed.eq_str_int (bZ I q (by simp))
  |str j=>obtain⟨t',rfl⟩:=ry;exact eq_str (bZ I q Gm)
  |_=>exact absurd (show false=true from hs) Bool.false_ne_true
 |Gq i =>
  obtain⟨t,rfl⟩:=rx
  cases y with
  |Gq j=>obtain⟨t',rfl⟩:=ry;exact PySem.W.eq_bytes (bZ I q Gn)
  |_=>exact absurd (show false=true from hs) Bool.false_ne_true
 |_=>cases y<;>exact absurd (show false=true from hs) Bool.false_ne_true
theorem xj:uQ X (compareOp .NotEq) rNe:=by
 intro pins s σ H x y v u Q I rx ry h
 obtain⟨hs,q⟩:=h
 cases x with
 |iz =>
  cases rx
  cases y with
  |iz=>cases ry;exact PySem.EqNone.ne_none_none (bZ I q (by simp))
  |bl j=>cases ry;exact PySem.EqNone.ne_none_bool (bZ I q (by simp))
  |int j=>obtain⟨t',rfl⟩:=ry;exact PySem.EqNone.ne_none_int (bZ I q (by simp))
  |str j=>obtain⟨t',rfl⟩:=ry;exact PySem.EqNone.ne_none_str (bZ I q (by simp))
  |_=>exact absurd (show false=true from hs) Bool.false_ne_true
 |bl i =>
  cases rx
  cases y with
  |iz=>cases ry;exact PySem.EqNone.ne_bool_none (bZ I q (by simp))
  |bl j=>cases ry;exact ne_bool (bZ I q (congrArg not Kl))
  |str j=>obtain⟨t',rfl⟩:=ry;exact PySem.EqMixed.ne_bool_str (bZ I q (by simp))
  |_=>exact absurd (show false=true from hs) Bool.false_ne_true
 |int i =>
  obtain⟨t,rfl⟩:=rx
  cases y with
  |iz=>cases ry;exact PySem.EqNone.ne_int_none (bZ I q (by simp))
  |int j=>obtain⟨t',rfl⟩:=ry;exact ne_int (bZ I q (congrArg not kg))
  |str j=>obtain⟨t',rfl⟩:=ry;exact PySem.EqMixed.ne_int_str (bZ I q (by simp))
  |_=>exact absurd (show false=true from hs) Bool.false_ne_true
 |str i =>
  obtain⟨t,rfl⟩:=rx
  cases y with
  |iz=>cases ry;exact PySem.EqNone.ne_str_none (bZ I q (by simp))
  |bl j=>cases ry;exact PySem.EqMixed.ne_str_bool (bZ I q (by simp))
  |int j=>obtain⟨t',rfl⟩:=ry;exact PySem.EqMixed.ne_str_int (bZ I q (by simp))
  |str j=>obtain⟨t',rfl⟩:=ry;exact ne_str (bZ I q (congrArg not Gm))
  |_=>exact absurd (show false=true from hs) Bool.false_ne_true
 |Gq i =>
  obtain⟨t,rfl⟩:=rx
  cases y with
  |Gq j=>obtain⟨t',rfl⟩:=ry;exact PySem.W.ne_bytes (bZ I q (congrArg not Gn))
  |_=>exact absurd (show false=true from hs) Bool.false_ne_true
 |_=>cases y<;>exact absurd (show false=true from hs) Bool.false_ne_true
theorem CF:uQ X (compareOp .Lt) (O1 λi j=>.bl (decide (i<j))):=O8 λ_ _ _ _ _ _ _ q=>lt_int q
theorem MR:uQ X (compareOp .LtE) (O1 λi j=>.bl (decide (i<=j))):=O8 λ_ _ _ _ _ _ _ q=>le_int q
theorem pY:uQ X (compareOp .Gt) (O1 λi j=>.bl (decide (j<i))):=O8 λ_ _ _ _ _ _ _ q=>gt_int q
theorem Ep:uQ X (compareOp .Is) (λx y H Q=>y= .iz/\Q (.bl (decide (x= .iz))) H):=by
 intro pins s σ H x y v u Q I rx ry h
 obtain⟨rfl,q⟩:=h
 cases ry
 refine is_none_gen (bZ I q ?_)
 cases x<;>first
  |(cases rx;rfl)
  |(obtain⟨t,rfl⟩:=rx;rfl)
theorem AH:uQ X (compareOp .IsNot) (λx y H Q=>y= .iz/\Q (.bl (!decide (x= .iz))) H):=by
 intro pins s σ H x y v u Q I rx ry h
 obtain⟨rfl,q⟩:=h
 cases ry
 refine isnot_none_gen (bZ I q ?_)
 cases x<;>first
  |(cases rx;rfl)
  |(obtain⟨t,rfl⟩:=rx;rfl)
theorem aO(b:Expr){op:CmpOp}(h:op≠ .In:=by decide)(h2:op≠ .NotIn:=by decide):behindInMarks op b=false:=by
 have e1:(op==CmpOp.In)=false:=by cases op<;>first|rfl|exact absurd rfl h
 have e2:(op==CmpOp.NotIn)=false:=by cases op<;>first|rfl|exact absurd rfl h2
 cases b<;>simp[behindInMarks,e1,e2]
theorem cC{op:CmpOp}{r:R2}(ho:uQ X (compareOp op) r)(ha:PE X a ta)(hb:PE X b tb)(hm:behindInMarks op b=false):PE X (.Compare a [op] [b] pos) (Ue r ta tb):=by
 intro pins s σ H Q I h
 exact wpAny_Compare1 (Qy ha hb I h λv u s2 x y H2 I2 rx ry q=>ho pins s2 σ H2 x y v u Q I2 rx ry q) hm
def Rb(t:TE):TT:=λσ H Q=>t σ H λx H'=>∃k,x= .bl k/\Q k H'
theorem aR{op:CmpOp}{r:R2}(ho:uQ X (compareOp op) r)(ha:PE X a ta)(hb:PE X b tb)(hm:behindInMarks op b=false):PT X (.Compare a [op] [b] pos) (Rb (Ue r ta tb)):=by
 intro pins s σ H Q I h
 refine wpAny_isTrue_Compare1 (fh (ha pins s σ H _ I h) λv s1 ⟨x,H1,I1,r1,q1⟩=>fh (hb pins s1 σ H1 _ I1 q1) λu s2 ⟨y,H2,I2,r2,q2⟩ =>
  fh (ho pins s2 σ H2 x y v u _ I2 r1 r2 q2) λc s3 ⟨z,H3,I3,r3,k,e,q3⟩=>?_) hm
 subst e
 cases r3
 exact wpAny_truthy_bool ⟨H3,I3,q3⟩
def OR(r r':R2)(ta tb tc:TE):TE:=λσ H Q=>ta σ H λx H1=>tb σ H1 λy H2=>r x y H2 λz H3=>∃k,z= .bl k ∧
 (if k=true then tc σ H3 λw' H4=>r' y w' H4 Q else Q (.bl false) H3)
theorem Je{op op':CmpOp}{r r':R2}(ho:uQ X (compareOp op) r)(ho':uQ X (compareOp op') r')(ha:PE X a ta)(hb:PE X b tb)(hc:PE X c tc)
  (hm:lastMarks [op,op'] [b,c]=false:=by with_unfolding_all rfl):PE X (.Compare a [op,op'] [b,c] pos) (OR r r' ta tb tc):=by
 intro pins s σ H Q I h
 refine Compare_chain (fh (ha pins s σ H _ I h) λv s1 ⟨x,H1,I1,r1,q1⟩=>chain_link (fh (hb pins s1 σ H1 _ I1 q1) λu s2 ⟨y,H2,I2,r2,q2⟩ =>
  fh (ho pins s2 σ H2 x y v u _ I2 r1 r2 q2) λd s3 ⟨z,H3,I3,r3,k,e,q3⟩=>?_)) hm
 subst e
 cases r3
 refine wpAny_truthy_bool ?_
 cases k with
 |false=>exact ite_ff ⟨.bl false,H3,I3,rfl,q3⟩
 |true=>exact ite_tt (chain_last (fh (hc pins s3 σ H3 _ I3 q3) λw' s4 ⟨z',H4,I4,r4,q4⟩=>ho' pins s4 σ H4 y z' u w' Q I4 r2 r4 q4))
theorem uH:(sizeLine:Nat)<2 ^ 63:=by rw[sizeLine_eq];decide
theorem oY:uQ X (binaryOp .Add) (λx y H Q=>∃i j,x= .str i/\y= .str j/\i.length+j.length<=sizeLine/\Q (.str (i++j)) H):=by
 intro pins s σ H x y v u Q I rx ry h
 obtain⟨i,j,rfl,rfl,hz,q⟩:=h
 obtain⟨t,rfl⟩:=rx
 obtain⟨t',rfl⟩:=ry
 exact TK.bY (Nat.le_refl _) (add_str (λt' tk hup=>⟨.str (i++j),H,I.tok _,⟨_,rfl⟩,q⟩) hz)
theorem vals1{x:V}{us:List Value}(r:Vals [x] us):∃u,us=[u]/\RelV x u:=by
 cases r with
 |cons r1 r2=>cases r2;exact⟨_,rfl,r1⟩
theorem vals2{x y:V}{us:List Value}(r:Vals [x,y] us):∃u w',us=[u,w']/\RelV x u/\RelV y w':=by
 cases r with
 |cons r1 r2 =>
  cases r2 with
  |cons r3 r4=>cases r4;exact⟨_,_,rfl,r1,r3⟩
theorem Ks:lP X (.builtin "abs") (λxs H Q=>∃i,xs=[.int i]/\Q (.int (if i<0 then -i else i)) H):=by
 intro pins s σ H xs us Q I r h
 obtain⟨i,rfl,q⟩:=h
 obtain⟨u,rfl,t,rfl⟩:=vals1 r
 exact TK.bY (Nat.le_refl _) (call_abs_int λu tk hup=>⟨.int (if i<0 then -i else i),H,I.tok _,⟨_,rfl⟩,q⟩)
theorem zT:lP X (.type "int") (λxs H Q=>(∃i,xs=[.int i]/\Q (.int i) H)\/∃k,xs=[.bl k]/\Q (.int (if k then 1 else 0)) H):=by
 intro pins s σ H xs us Q I r h
 rcases h with⟨i,rfl,q⟩|⟨k,rfl,q⟩
 ·obtain⟨u,rfl,t,rfl⟩:=vals1 r
  exact call_int_int ⟨.int i,H,I,⟨_,rfl⟩,q⟩
 ·obtain⟨u,rfl,r1⟩:=vals1 r
  cases r1
  exact call_int_bool ⟨.int (if k then 1 else 0),H,I.tok _,⟨_,rfl⟩,q⟩
theorem Kr:lP X (.builtin "ord") (λxs H Q=>∃x,xs=[.str x]/\x.length=1/\Q (.int (x.cps.getD 0 0:Nat)) H):=by
 intro pins s σ H xs us Q I r h
 obtain⟨x,rfl,hz,q⟩:=h
 obtain⟨u,rfl,t,rfl⟩:=vals1 r
 exact ord_of_one hz ⟨.int _,H,I.tok _,⟨_,rfl⟩,q⟩
def QD(K:PySem.W.Frag)(x:V)(H:Hp)(n:Nat):Prop :=
 match x with
 | .str y=>y.length<=sizeLine/\n=y.length
 | .Gq y=>y.size<=sizeLine/\n=y.size
 | .ref p=>(∃xs,bI K H p xs/\n=xs.length)\/∃xs,dR K H p xs/\n=xs.length
 |_=>False
theorem bz:lP X (.builtin "len") (λxs H Q=>∃x n,xs=[x]/\QD X.K x H n/\Q (.int n) H):=by
 intro pins s σ H xs us Q I r h
 obtain⟨x,n,rfl,e,q⟩:=h
 obtain⟨u,rfl,rx⟩:=vals1 r
 have hl:=uH
 have hs:sizeLine=16777216:=sizeLine_eq
 cases x with
 |str y =>
  obtain⟨t,rfl⟩:=rx
  obtain⟨hy,e'⟩:y.length<=sizeLine/\n=y.length:=e
  subst e'
  exact len_str (by omega) ⟨.int _,H,I.tok _,⟨_,rfl⟩,q⟩
 |Gq y =>
  obtain⟨t,rfl⟩:=rx
  obtain⟨hy,e'⟩:y.size<=sizeLine/\n=y.size:=e
  subst e'
  exact PySem.W.len_bytes (by omega) ⟨.int _,H,I.tok _,⟨_,rfl⟩,q⟩
 |ref p =>
  cases rx
  have e':(∃xs,bI X.K H p xs/\n=xs.length)\/∃xs,dR X.K H p xs/\n=xs.length:=e
  rcases e' with⟨xs,hx,e'⟩|⟨xs,hx,e'⟩
  ·subst e'
   obtain⟨its,r',pl,hz⟩:=I.list hx
   have hlen:=r'.length
   exact Calls.call_len_list pl.isList (by simp only[List.size_toArray];omega) ⟨.int xs.length,H,I.tok _,⟨_,by simp only[List.size_toArray];rw[hlen]⟩,q⟩
  ·subst e'
   obtain⟨its,r',pl,hz⟩:=I.tuple hx
   have hlen:=r'.length
   exact len_tuple pl (by simp only[List.size_toArray];omega) ⟨.int xs.length,H,I.tok _,⟨_,by simp only[List.size_toArray];rw[hlen]⟩,q⟩
 |_=>exact(show False from e).elim
end
end L2
namespace L2
open PySem PySem.Spec PyProof.Rows
structure HK(h:Heap)(x dx C:Addr)(mA:Str->Option Value):Prop where
 obj:h.get? x=some (PySem.W.instObj C dx)
 ns:h.Ns1 dx mA
 ne:dx≠x
theorem uG{h:Heap}{dx:Addr}{mA:Str->Option Value}(n:h.Ns1 dx mA):∃od,h.get? dx=some od/\∀name,PySem.W.lookIn name od=some (mA name):=by
 obtain⟨o,es,ep,ho,hd,hk,_,hm⟩:=n
 refine⟨o,ho,λname=>?_⟩
 have e:=hm name
 unfold nsFind findBy at e
 rw[←Array.find?_toList]at e
 unfold PySem.W.lookIn
 rw[hd]
 dsimp only
 split
 ·rename_i y q
  rw[q]at e
  exact congrArg some e
 ·rename_i q
  rw[q]at e
  have a:es.toList.any (·.refKey)=false:=by
   rw[List.any_eq_false]
   intro y hy
   obtain⟨z,t,hkey⟩:=hk y (Array.mem_toList_iff.mp hy)
   simp[DictEntry.refKey,hkey]
  have a':¬es.toList.any (·.refKey)=true:=by rw[a];exact Bool.false_ne_true
  rw[if_neg a']
  exact congrArg some e
theorem HK.look{h:Heap}{x dx C:Addr}{mA:Str->Option Value}(I:HK h x dx C mA):∃od,PySem.W.InstAt h x (PySem.W.instObj C dx) C (some od)/\∀name,PySem.W.lookIn name od=some (mA name) :=
 let ⟨od,ho,hl⟩:=uG I.ns
 ⟨od,⟨I.obj,rfl,rfl,ho⟩,hl⟩
section
variable{prog:Program}{w:World}{A:Around}{E:Value->Shared->Prop}{s:Shared}{K:PySem.W.Frag}{x dx C f:Addr}{mA:Str->Option Value}{name:Str}{v:Value}
theorem get_map{expr:Bool}{Q:Value->Shared->Prop}(X:K.In s.heap)(I:HK s.heap x dx C mA)(hg:PySem.W.plainGet K C name=true)(hh:PySem.W.hasDictIn K C=true)
  (ha:PySem.W.findIn K (.ref C) name=some none) (hv:mA name=some v) (hv':PySem.W.handedIn v=true) (h:Q v { s with toks:=s.toks+1 }) :
  wpAny (model prog w) A (getAttr (.ref x) name expr) Q E s:=by
 obtain⟨od,J,hl⟩:=I.look
 exact PySem.W.get_value X J (PySem.W.plainGet_of hg).1 (PySem.W.findObj_own hh ha rfl (by rw[hl,hv])) hv' h
theorem Lk{ns:List Str}{Q:Unit->Shared->Prop}(X:K.In s.heap)(I:HK s.heap x dx C mA)
  (hs:PySem.W.findIn K (.ref C) "__setattr__" =some (some (.builtin "object.__setattr__"))) (hp:PySem.W.plainOver K C=true) (ht:PySem.W.takerIn K C name=some none) (hh:PySem.W.hasDictIn K C=true)
  (hw:PySem.Within mA ns) (hsz:ns.length<=sizeLine)
  (h:∀h',HK h' x dx C (λy=>if y=name then some v else mA y)->Heap.SameBut dx s.heap h'->Q () { s with heap:=h',toks:=s.toks+2 }) :
  wpAny (model prog w) A (setAttr (.ref x) name v) Q E s:=by
 obtain⟨od,J,hl⟩:=I.look
 refine PySem.W.set_plain X J hs (PySem.W.osa_open (s:={ s with toks:=s.toks+1 }) (r:=none) X J hp ht λb=>?_)
 obtain⟨cd,hc,hd'⟩:=PySem.W.any_some hh
 have hx:s.heap.get? x=some ⟨.ref C,some dx,.plain,#[]⟩:=I.obj
 refine wpAny_bind (wpAny_pure (wpAny_bind (wpAny_bind (wpAny_loadPart hx (wpAny_bind (PySem.W.Looks.here (s:={ s with toks:=s.toks+1 }) (PySem.W.looks_clsIn X hc) ?_))))))
 rw[hd']
 refine wpAny_pure (a:=some dx) (wpAny_bind (wpAny_pure (wpAny_bind ?_)))
 refine wpAny_nsSet1 (s:={ s with toks:=s.toks+1 }) I.ns λh' hn2 hs2=>?_
 obtain⟨oD,esD,epD,SO,S3,S4⟩:=hn2.count (PySem.Within.cons name v hw)
 refine wpAny_bind (wpAny_lookBehind SO (by rw[S3];exact pastItsLine_dict (Nat.le_trans S4 (by rw[List.length_cons];omega))) ?_)
 exact wpAny_pure (h _ ⟨(hs2.2 _ (Ne.symm I.ne)).trans I.obj,hn2,I.ne⟩ hs2)
theorem Js{R:Result->Shared->Prop}{vs:List Value}{kw:List (Str×Value)}(X:K.In s.heap)(hm:PySem.W.makesIn K C=true)
  (hi:PySem.W.findIn K (.ref C) "__init__" =some (some (.ref f))) (hf:PySem.W.typeIn K (.ref f)=some (.type "function"))
  (h:codeAny (model prog w) (A.under (.builtin "type.__call__" ⟨.ref C::vs,kw⟩)) (.call (.ref f) ⟨.ref (s.heap.objs.size+1)::vs,kw⟩) (PySem.W.InitBack (s.heap.objs.size+1) R)
   { s with heap:=(s.heap.push PySem.W.emptyDict).push (PySem.W.instObj C s.heap.objs.size) }) :
  codeAny (model prog w) A (.call (.ref C) ⟨vs,kw⟩) R s:=by
 obtain⟨hh,g,d,t,os⟩:=s
 exact PySem.W.make_core (PySem.W.makes_of X hm) (PySem.W.looks_findIn X hi) (λself=>PySem.W.bind_fn X self hf) (.inl rfl) h
end
def aF(f:Str)(v:V):List (Str×V)->List (Str×V)
 |[]=>[(f,v)]
 |(g,x)::r=>if g=f then(g,v)::r else(g,x)::aF f v r
theorem av(f g:Str)(v:V):∀fs:List (Str×V),(aF f v fs).lookup g=if g=f then some v else fs.lookup g
 |[]=>by
  show List.lookup g [(f,v)]=_
  by_cases h:g=f
  ·have hb:(g==f)=true:=beq_iff_eq.mpr h
   simp only[List.lookup,hb,if_pos h]
  ·have hb:(g==f)=false:=beq_eq_false_iff_ne.mpr h
   simp only[List.lookup,hb,if_neg h]
 |(k,x)::r=>by
  have ih:=av f g v r
  rw[show aF f v ((k,x)::r)=(if k=f then(k,v)::r else(k,x)::aF f v r) from rfl]
  by_cases hk:k=f
  ·rw[if_pos hk]
   by_cases h:g=k
   ·have hb:(g==k)=true:=beq_iff_eq.mpr h
    simp only[List.lookup,hb,if_pos (h.trans hk)]
   ·have hb:(g==k)=false:=beq_eq_false_iff_ne.mpr h
    simp only[List.lookup,hb,if_neg (λe:g=f=>h (e.trans hk.symm))]
  ·rw[if_neg hk]
   by_cases h:g=k
   ·have hb:(g==k)=true:=beq_iff_eq.mpr h
    simp only[List.lookup,hb,if_neg (λe:g=f=>hk (h.symm.trans e))]
   ·have hb:(g==k)=false:=beq_eq_false_iff_ne.mpr h
    simp only[List.lookup,hb]
    exact ih
theorem oF(f:Str)(v:V):∀fs:List (Str×V),f∈(aF f v fs).map (·.1)/\∀g,g∈fs.map (·.1)->g∈(aF f v fs).map (·.1)
 |[]=>⟨by simp[aF],λg h=>by simp at h⟩
 |(k,x)::r=>by
  obtain⟨i1,i2⟩:=oF f v r
  rw[show aF f v ((k,x)::r)=(if k=f then(k,v)::r else(k,x)::aF f v r) from rfl]
  by_cases hk:k=f
  ·rw[if_pos hk]
   subst hk
   exact⟨by simp,λg h=>by simpa using h⟩
  ·rw[if_neg hk]
   refine⟨?_,λg h=>?_⟩
   ·rw[List.map_cons]
    exact List.mem_cons_of_mem _ i1
   ·rw[List.map_cons]at h ⊢
    rcases List.mem_cons.mp h with e|e
    ·exact List.mem_cons.mpr (.inl e)
    ·exact List.mem_cons_of_mem _ (i2 g e)
theorem qh(f:Str)(v:V):∀fs:List (Str×V),(aF f v fs).length<=fs.length+1
 |[]=>by simp[aF]
 |(k,x)::r=>by
  have ih:=qh f v r
  rw[show aF f v ((k,x)::r)=(if k=f then(k,v)::r else(k,x)::aF f v r) from rfl]
  by_cases hk:k=f
  ·rw[if_pos hk,List.length_cons,List.length_cons];omega
  ·rw[if_neg hk,List.length_cons,List.length_cons];omega
theorem nh.some_of{v:V}{o:Option Value}(r:nh (some v) o):∃u,o=some u/\RelV v u:=by
 cases o with
 |none=>exact(show False from r).elim
 |some u=>exact⟨u,rfl,r⟩
theorem Hr{v:V}{u:Value}(r:RelV v u):PySem.W.handedIn u=true:=by
 cases v with
 |iz=>cases (show u=Value.none from r);rfl
 |bl b=>cases (show u=Value.bool b from r);rfl
 |int i=>obtain⟨t,e⟩:=(show ∃t,u=Value.int i t from r);cases e;rfl
 |str x=>obtain⟨t,e⟩:=(show ∃t,u=Value.str x t from r);cases e;rfl
 |Gq b=>obtain⟨t,e⟩:=(show ∃t,u=Value.bytes b t from r);cases e;rfl
 |Ql b=>obtain⟨t,e⟩:=(show ∃t,u=Value.float b t from r);cases e;rfl
 |ref a=>cases (show u=Value.ref a from r);rfl
 |ty n=>cases (show u=Value.type n from r);rfl
section
variable{P:Program}{w:World}{H H':Hp}{h h':Heap}{a C dx:Addr}{fs fs':List (Str×V)}
theorem A0(hok:mO P w H h)(e:H a=some (.ins C dx fs)):∃mA,HK h a dx C mA/\(∀f,nh (fs.lookup f) (mA f))/\PySem.Within mA (fs.map (·.1))/\fs.length<=1000/\H dx=some (.own a):=by
 obtain⟨d,z,ne,ob,mA,n,r,q⟩:=(show bQ P w H h a (.ins C dx fs) from hok a _ e)
 exact⟨mA,⟨ob,n,ne⟩,r,q,z,d⟩
end
structure MA(K:PySem.W.Frag)(C:Addr):Prop where
 pg:PySem.W.plainGet K C Str.empty=true
 hd:PySem.W.hasDictIn K C=true
 po:PySem.W.plainOver K C=true
 sa:PySem.W.findIn K (.ref C) "__setattr__" =some (some (.builtin "object.__setattr__"))
theorem MA.get{K:PySem.W.Frag}{C:Addr}(c:MA K C)(f:Str):PySem.W.plainGet K C f=true:=c.pg
def bN(K:PySem.W.Frag)(C:Addr)(f:Str):Prop:=PySem.W.findIn K (.ref C) f=some none
theorem bN.Iu{K:PySem.W.Frag}{C:Addr}{f:Str}(n:bN K C f):PySem.W.takerIn K C f=some none:=by
 unfold PySem.W.takerIn
 rw[show PySem.W.findIn K (.ref C) f=some none from n]
 rfl
section
variable{X:Cx}{pins:List (Addr×Obj)}{σ:St}{H:Hp}{s:Shared}{a C dx:Addr}{fs:List (Str×V)}{f:Str}{v:V}{A:Around}{E:Value->Shared->Prop}
theorem ER{b:Bool}{Q:Value->Shared->Prop}(I:Inv X pins σ H s)(e:H a=some (.ins C dx fs))(c:MA X.K C)(n:bN X.K C f)(l:fs.lookup f=some v)
  (h:∀u s',Inv X pins σ H s'->RelV v u->Q u s'):wpAny (model X.prog X.w) A (getAttr (.ref a) f b) Q E s:=by
 obtain⟨mA,O,r,_,_,_⟩:=A0 I.hok e
 obtain⟨u,hu,ru⟩:=nh.some_of (v:=v) (o:=mA f) (by rw[←l];exact r f)
 exact get_map I.pI O (c.get f) c.hd n hu (Hr ru) (h u _ (I.tok _) ru)
theorem Eh{y:V}{u:Value}{Q:Unit->Shared->Prop}(I:Inv X pins σ H s)(e:H a=some (.ins C dx fs))(c:MA X.K C)(n:bN X.K C f)(hl:fs.length<1000)(ry:RelV y u)
  (h:∀s',Inv X pins σ (upd H a (.ins C dx (aF f y fs))) s'->Q () s'):wpAny (model X.prog X.w) A (setAttr (.ref a) f u) Q E s:=by
 obtain⟨mA,O,r,wi,_,ho⟩:=A0 I.hok e
 have hz:(fs.map (·.1)).length<=sizeLine:=by rw[List.length_map,sizeLine_eq];omega
 refine Lk I.pI O c.sa c.po n.Iu c.hd wi hz λh' O' sb=>h _ ?_
 have hd:∃o,h'.get? dx=some o:=let ⟨o,_,_,e',_⟩:=O'.ns;⟨o,e'⟩
 refine I.write (x:=a) (e:=dx) (by rw[e];exact True.intro) (.inr ho) (λb q hb z=>(sb.2 b hb).trans z) hd ?_
 refine⟨by rw[ao O.ne];exact ho,?_,O.ne,O'.obj,_,O'.ns,λg=>?_,λg hg=>?_⟩
 ·have:=qh f y fs;omega
 ·show nh ((aF f y fs).lookup g) (if g=f then some u else mA g)
  rw[av]
  by_cases q:g=f
  ·rw[if_pos q,if_pos q];exact ry
  ·rw[if_neg q,if_neg q];exact r g
 ·by_cases q:g=f
  ·rw[q];exact(oF f y fs).1
  ·refine(oF f y fs).2 g (wi g λz=>hg ?_)
   show(if g=f then some u else mA g)=none
   rw[if_neg q];exact z
theorem Inv.made(I:Inv X pins σ H s):Inv X pins σ (upd (upd H s.heap.objs.size (.own (s.heap.objs.size+1))) (s.heap.objs.size+1) (.ins C s.heap.objs.size []))
  { s with heap:=(s.heap.push PySem.W.emptyDict).push (PySem.W.instObj C s.heap.objs.size) }:=by
 have e1:(s.heap.push PySem.W.emptyDict).get? s.heap.objs.size=some PySem.W.emptyDict:=Heap.get?_push_size s.heap rfl
 have e2:((s.heap.push PySem.W.emptyDict).push (PySem.W.instObj C s.heap.objs.size)).get? (s.heap.objs.size+1)=some (PySem.W.instObj C s.heap.objs.size):=by
  have:=Heap.get?_push_size (s.heap.push PySem.W.emptyDict) (o:=PySem.W.instObj C s.heap.objs.size) rfl
  rwa [Heap.size_push]at this
 have e3:(s.heap.push PySem.W.emptyDict).Ns s.heap.objs.size (λ_=>none):=⟨PySem.W.emptyDict,#[],_,e1,rfl,(λe he=>absurd he (by simp)),λ_=>rfl⟩
 have I1:=I.laid (a:=s.heap.objs.size) (o:=.own (s.heap.objs.size+1)) (h':=s.heap.push PySem.W.emptyDict) (t':=s.toks) (λb u q=>Heap.get?_push_of_some _ q) (Nat.le_refl _) ⟨_,e1⟩
 refine I1.laid (a:=s.heap.objs.size+1) (o:=.ins C s.heap.objs.size []) (t':=s.toks) (λb u q=>Heap.get?_push_of_some _ q) (Nat.le_of_eq (Heap.size_push _ _)) ?_
 have ne:s.heap.objs.size≠s.heap.objs.size+1:=Nat.ne_of_lt (Nat.lt_succ_self _)
 refine⟨by rw[ao ne,ah],Nat.zero_le _,ne,e2,λ_=>none,(Heap.Ns1.of_empty e3).at λo q=>Heap.get?_push_of_some _ q,λ_=>True.intro,λy hy=>absurd rfl hy⟩
theorem Gu{prog:Program}{w:World}{env:Env}{e:Expr}{f:Str}{pos:Pos}{s:Shared}{Q:Value->Shared->Prop}(hb:attributeBase e f env (eval e env)=eval e env)
  (h:wpAny (model prog w) A (eval e env) (λo s₁=>wpAny (model prog w) A (getAttr o f true) Q E s₁) E s):wpAny (model prog w) A (eval (.Attribute e f pos) env) Q E s :=
 Attribute_any_ h (by rw[arm_eval_Attribute,hb])
end
def Rl(K:PySem.W.Frag)(ta:TE)(f:Str):TE:=λσ H Q=>ta σ H λx H1=>∃a C dx fs v,x= .ref a/\H1 a=some (.ins C dx fs)/\MA K C/\bN K C f/\fs.lookup f=some v/\Q v H1
def Wz(K:PySem.W.Frag)(ta tv:TE)(f:Str):TS:=λD σ H=>tv σ H λy H1=>ta σ H1 λx H2=>∃a C dx fs,x= .ref a/\H2 a=some (.ins C dx fs)/\MA K C/\bN K C f/\fs.length<1000 ∧
 D.nx σ (upd H2 a (.ins C dx (aF f y fs)))
section
variable{X:Cx}{o e value:Expr}{f:Str}{pos pos' tpos:Pos}{ta tv:TE}
theorem cW(he:PE X e ta)(hb:attributeBase e f X.env (eval e X.env)=eval e X.env):PE X (.Attribute e f pos) (Rl X.K ta f):=by
 intro pins s σ H Q I h
 refine Gu hb (fh (he pins s σ H _ I h) λu s1 ⟨x,H1,I1,rx,a,C,dx,fs,v,ex,ea,c,n,l,q⟩=>?_)
 subst ex
 obtain rfl:u=Value.ref a:=rx
 exact ER I1 ea c n l λu' s2 I2 ru=>⟨v,H1,I2,ru,q⟩
theorem lR(ha:PE X o ta)(hv:PE X value tv)(hs:swapsWith value (some (.Attribute o f pos')) pos.line X.env=pure false):PS X (.Assign [.Attribute o f pos'] value pos) (Wz X.K ta tv f):=by
 intro pins s σ H D I h
 refine plainObj_wpAny_Assign_Attribute (fh (hv pins s σ H _ I h) λu s1 ⟨y,H1,I1,ry,q⟩=>fh (ha pins s1 σ H1 _ I1 q) λov s2 ⟨x,H2,I2,rx,a,C,dx,fs,ex,ea,c,n,l,q2⟩=>?_) hs
 subst ex
 obtain rfl:ov=Value.ref a:=rx
 exact Eh I2 ea c n l ry λs3 I3=>⟨σ,_,I3,q2⟩
end
section
variable{X:Cx}{pins:List (Addr×Obj)}{σ:St}{H:Hp}{s:Shared}{A:Around}{E:Value->Shared->Prop}{Q:Value->Shared->Prop}{c:Value}{b:Bool}
inductive tR(K:PySem.W.Frag)(H:Hp):V->Value->Prop where
 |iz:tR K H .iz (.type "NoneType")
 |bl (x:Bool):tR K H (.bl x) (.type "bool")
 |int (i:Int):tR K H (.int i) (.type "int")
 |str (x:Str):tR K H (.str x) (.type "str")
 |Ql (x:UInt64):tR K H (.Ql x) (.type "float")
 |lst {a:Addr} {xs:List V} (e:H a=some (.lst xs)):tR K H (.ref a) (.type "list")
 |EV {a:Addr} {o:Obj} {xs:List V} (e:H a=some (.EV o (.lst xs))):tR K H (.ref a) (.type "list")
 |tup {a:Addr} {xs:List V} (e:H a=some (.tup xs)):tR K H (.ref a) (.type "tuple")
 |dK {a:Addr} {kvs:List (Key×V)} (e:H a=some (.dK kvs)):tR K H (.ref a) (.type "dict")
 |dT {a:Addr} {kvs:List (List Key×V)} (e:H a=some (.dT kvs)):tR K H (.ref a) (.type "dict")
 |ins {a C dx:Addr} {fs:List (Str×V)} (e:H a=some (.ins C dx fs)) (cl:MA K C) (ha:PySem.W.findIn K (.ref C) "__class__" =some (some (.builtin "object.__class__")))
   (hn:PySem.W.specialIn K (.builtin "object.__class__") "__get__" =some (some (.builtin "getset_descriptor.__get__"))) (htk:PySem.W.takesIn K (.builtin "object.__class__")=some true)
   (hm:PySem.W.mroIn K C (.type "object")=some true):tR K H (.ref a) (.ref C)
theorem Hi{x:V}{u t:Value}(I:Inv X pins σ H s)(rx:RelV x u)(ty:tR X.K H x t)(e:PySem.W.kitOne X.K t c=some b)(h:∀tk,Q (.bool b) { s with toks:=tk }):
  wpAny (model X.prog X.w) A (call (.builtin "isinstance") [u,c]) Q E s:=by
 cases ty with
 |iz=>cases (show u=Value.none from rx);exact PySem.W.kia_one PySem.W.kitx_none I.pI True.intro e (λz=>nomatch z) h
 |bl y=>cases (show u=Value.bool y from rx);exact PySem.W.kia_one PySem.W.kitx_bool I.pI True.intro e (λz=>nomatch z) h
 |int i=>obtain⟨t,q⟩:=(show ∃t,u=Value.int i t from rx);cases q;exact PySem.W.kia_one PySem.W.kitx_int I.pI True.intro e (λz=>nomatch z) h
 |str y=>obtain⟨t,q⟩:=(show ∃t,u=Value.str y t from rx);cases q;exact PySem.W.kia_one PySem.W.kitx_str I.pI True.intro e (λz=>nomatch z) h
 |Ql y=>obtain⟨t,q⟩:=(show ∃t,u=Value.float y t from rx);cases q;exact PySem.W.kia_one PySem.W.kitx_float I.pI True.intro e (λz=>nomatch z) h
 | @lst a xs ea =>
  cases (show u=Value.ref a from rx)
  obtain⟨_,_,n,_,h1⟩:=(show bQ X.prog X.w H s.heap a (.lst xs) from I.hok a _ ea)
  exact PySem.W.kia_one PySem.W.kitx_list I.pI ⟨_,h1,rfl⟩ e (λz=>nomatch z) h
 | @EV a ob xs ea =>
  cases (show u=Value.ref a from rx)
  obtain⟨_,_,_,n,_,h1⟩:=(show bQ X.prog X.w H s.heap a (.EV ob (.lst xs)) from I.hok a _ ea)
  exact PySem.W.kia_one PySem.W.kitx_list I.pI ⟨_,h1,rfl⟩ e (λz=>nomatch z) h
 | @tup a xs ea =>
  cases (show u=Value.ref a from rx)
  obtain⟨_,_,_,p⟩:=(show bQ X.prog X.w H s.heap a (.tup xs) from I.hok a _ ea)
  obtain⟨o,h1,h2,_⟩:=p
  exact PySem.W.kia_one PySem.W.kitx_tuple I.pI ⟨o,h1,h2⟩ e (λz=>nomatch z) h
 | @dK a kvs ea =>
  cases (show u=Value.ref a from rx)
  obtain⟨_,_,vs,_,p⟩:=(show bQ X.prog X.w H s.heap a (.dK kvs) from I.hok a _ ea)
  obtain⟨o,es,ep,h1,h2,_⟩:=p
  exact PySem.W.kia_one PySem.W.kitx_dict I.pI ⟨o,h1,h2.1⟩ e (λz=>nomatch z) h
 | @dT a kvs ea =>
  cases (show u=Value.ref a from rx)
  obtain⟨_,_,xs,_,o,es,ep,h1,h2,_⟩:=(show bQ X.prog X.w H s.heap a (.dT kvs) from I.hok a _ ea)
  exact PySem.W.kia_one PySem.W.kitx_dict I.pI ⟨o,h1,h2.1⟩ e (λz=>nomatch z) h
 | @ins a C dx fs ea cl ha hn htk hm =>
  cases (show u=Value.ref a from rx)
  obtain⟨mA,O,_⟩:=A0 I.hok ea
  obtain⟨od,J,_⟩:=O.look
  exact PySem.W.kia_one (PySem.W.kitx_own (cl.get _) cl.hd ha hn htk hm) I.pI J e (λz=>nomatch z) h
end
end L2
namespace L2
open PySem PySem.Spec PyProof.Rows
structure jO(k:Nat)(A:Around):Prop where
 hd:A.handled=none
 dp:A.depth+3*k+5<recursionLimit
 un:A.units+16*k+200<cLine
theorem jO.mono{j k:Nat}{A:Around}(r:jO k A)(h:j<=k):jO j A:=⟨r.hd,by have:=r.dp;omega,by have:=r.un;omega⟩
theorem jO.deeper{k:Nat}{A:Around}(r:jO (k+1) A)(env:Env):jO k (A.deeper env) :=
 ⟨r.hd,by have:=r.dp;show A.depth+1+3*k+5<_;omega,by have:=r.un;show A.units+3+16*k+200<_;omega⟩
theorem EK{A:Around}{C:Addr}{us:List Value}{kw:List (Str×Value)}:(A.under (.builtin "type.__call__" ⟨.ref C::us,kw⟩)).depth=A.depth+1:=by
 first|rfl|simp[Around.under,Code.weight,Code.isCreation,Code.isGuard,Code.isCaller,Code.frames,Code.isFrame,guardIds]
theorem EJ{A:Around}{C:Addr}{us:List Value}{kw:List (Str×Value)}:(A.under (.builtin "type.__call__" ⟨.ref C::us,kw⟩)).units=A.units+1:=by
 first|rfl|simp[Around.under,Code.cUnits,Code.frames,Code.isFrame]
theorem jO.make{k:Nat}{A:Around}(r:jO (k+1) A)(C:Addr)(us:List Value)(kw:List (Str×Value)):jO k (A.under (.builtin "type.__call__" ⟨.ref C::us,kw⟩)) :=
 ⟨r.hd,by have:=r.dp;rw[EK];omega,by have:=r.un;rw[EJ];omega⟩
theorem jO.depth{k:Nat}{A:Around}(r:jO k A):A.depth<recursionLimit:=by have:=r.dp;omega
theorem jO.units{k:Nat}{A:Around}(r:jO k A):A.units+64<cLine:=by have:=r.un;omega
def Wl:TA:=λ_ H Q=>Q [] H
def Ro(ta:TE)(tr:TA):TA:=λσ H Q=>ta σ H λx H1=>tr σ H1 λxs H2=>Q (x::xs) H2
section
variable{X:Cx}{e:Expr}{es:List Expr}{te:TE}{t:TA}{pos:Pos}
theorem af:PA X [] Wl:=λ_ _ _ _ H Q I h=>Calls.spliced_nil ⟨[],H,I,.nil,h⟩
theorem aa(ha:PE X e te)(hr:PA X es t)(hs:starEach (e::es) X.env=(false,eval e X.env)::starEach es X.env:=by rfl):PA X (e::es) (Ro te t):=by
 intro pos pins s σ H Q I h
 rw[hs]
 show wpAny _ _ (spliced ((false,eval e X.env)::backTo pos (starEach es X.env))) _ _ s
 refine Calls.spliced_cons (fh (ha pins s σ H _ I h) λu s1 ⟨x,H1,I1,r1,q1⟩=>?_)
 exact fh (hr pos pins s1 σ H1 _ I1 q1) λus s2 ⟨xs,H2,I2,r2,q2⟩=>⟨x::xs,H2,I2,.cons r1 r2,q2⟩
def Wf(t:TA):TE:=λσ H Q=>t σ H λxs H1=>xs.length<=sizeLine/\∀p,H1 p=none->Q (.ref p) (upd H1 p (.tup xs))
def Wn(t:TA):TE:=λσ H Q=>t σ H λxs H1=>xs.length<=sizeLine/\∀p,H1 p=none->Q (.ref p) (upd H1 p (.lst xs))
theorem bG{x1}(h:PA X es t):PE X (.Tuple es x1 pos) (Wf t):=by
 intro pins s σ H Q I hq
 refine wpAny_Tuple_spliced (fh (h pos pins s σ H _ I hq) λus s1 ⟨xs,H1,I1,r,z,q⟩=>⟨by rw[←r.length];exact z,?_⟩)
 have hf:H1 s1.heap.objs.size=none:=I1.hok.fresh (Nat.le_refl _)
 refine⟨.ref s1.heap.objs.size,upd H1 s1.heap.objs.size (.tup xs),I1.laid (t':=s1.toks) (λb u e=>Heap.get?_push_of_some _ e) (Nat.le_refl _) ?_,rfl,q _ hf⟩
 exact⟨z,us,r,⟨_,Heap.get?_push_size _ rfl,rfl,_,rfl⟩⟩
theorem eX(h:PA X es t):PE X (.List es pos) (Wn t):=by
 intro pins s σ H Q I hq
 refine wpAny_List_spliced (fh (h pos pins s σ H _ I hq) λus s1 ⟨xs,H1,I1,r,z,q⟩=>⟨by rw[←r.length];exact z,?_⟩)
 have hf:H1 s1.heap.objs.size=none:=I1.hok.fresh (Nat.le_refl _)
 refine⟨.ref s1.heap.objs.size,upd H1 s1.heap.objs.size (.lst xs),I1.laid (t':=s1.toks) (λb u e=>Heap.get?_push_of_some _ e) (Nat.le_refl _) ?_,rfl,q _ hf⟩
 exact⟨z,us,0,r,Heap.get?_push_size _ rfl⟩
end
abbrev Sp:=List V->Hp->VK->XK->Prop
abbrev HR:=List Env->Hp->Shared->XK->Value->Shared->Prop
structure Fi(P:Program)(w:World)(K:PySem.W.Frag)(mg:Str->Option Value)(base:Heap)(A:Around)(outer:List Env)(s:Shared)(H:Hp):Prop where
 frames:A.frames=some outer
 mod:Mod K mg base
 bs:∀b o,base.get? b=some o->s.heap.get? b=some o/\H b=none
 Kv:base.objs.size<=s.heap.objs.size
 rZ:s.heap.FunFrames base outer
 Mi:∀b∈frs outer,H b=none
 hok:mO P w H s.heap
 bare:AllBare s.gens
 tk:E9 mg s.toks
def CE(outer:List Env)(P:Program)(w:World)(H:Hp)(s:Shared)(Q:VK)(u:Value)(s':Shared):Prop :=
 ∃v H',s'.os=s.os/\AllBare s'.gens/\Un (frs outer) [] H H' s.heap s'.heap/\mO P w H' s'.heap/\RelV v u/\s.toks<=s'.toks/\Q v H'
def CR(CX:HR)(outer:List Env)(P:Program)(w:World)(H:Hp)(s:Shared)(Q:VK)(E:XK)(r:Result)(s':Shared):Prop :=
 match r with
 | .ok (.ret u)=>CE outer P w H s Q u s'
 | .ok _=>False
 | .error e=>CX outer H s E e s'
structure aI(P:Program)(w:World)(K:PySem.W.Frag)(mg:Str->Option Value)(base:Heap)(CX:HR)(k:Nat)(f:Addr)(fd:FuncData)(ps:List Str)(sp:Sp):Prop where
 len:∀vs H Q E,sp vs H Q E->vs.length=ps.length
 run:∀(A:Around) (outer:List Env) (s:Shared) (H:Hp) (args:Args) (us:List Value) (vs:List V) (Q:VK) (E:XK),jO k A->Fi P w K mg base A outer s H->BindsTo s fd args (ps.zip us)->Vals vs us->sp vs H Q E →
  codeAny (model P w) A (.call (.ref f) args) (CR CX outer P w H s Q E) s
theorem Fi.make{P:Program}{w:World}{K:PySem.W.Frag}{mg:Str->Option Value}{base:Heap}{A:Around}{outer:List Env}{s:Shared}{H:Hp}(e:Fi P w K mg base A outer s H)(C:Addr)(us:List Value)(kw:List (Str×Value)):
  Fi P w K mg base (A.under (.builtin "type.__call__" ⟨.ref C::us,kw⟩)) outer s H:=⟨by first|exact e.frames|(simpa[Around.under,Code.envs,Code.isFrame,pushEnvs]using e.frames),e.mod,e.bs,e.Kv,e.rZ,e.Mi,e.hok,e.bare,e.tk⟩
section
variable{X:Cx}{pins:List (Addr×Obj)}{σ:St}{H:Hp}{s s':Shared}
theorem Inv.Mp(I:Inv X pins σ H s):Fi X.prog X.w X.K X.mg X.base X.A X.stack s H :=
 ⟨I.ok.frames,I.ok.mod,I.bs,Nat.le_trans I.ok.Kv I.sz,I.stack,I.Ai,I.hok,I.bare,I.tk⟩
theorem Inv.after{Q:VK}{u:Value}(I:Inv X pins σ H s)(h:CE X.stack X.prog X.w H s Q u s'):EP X pins σ Q u s':=by
 obtain⟨v,H',os,bare,un,hok,r,tt,q⟩:=h
 obtain⟨hh,g,d,t,os'⟩:=s'
 obtain rfl:os'=s.os:=os
 exact⟨v,H',I.call (h':=hh) (g':=g) (d':=d) (t':=t) (ch:=[]) un hok bare (λb z=>absurd z (by simp)) (Nat.le_trans I.up tt),r,q⟩
end
def Rp(sp:Sp)(yo:List V)(E:XK)(t:TA):TE:=λσ H Q=>t σ H λvs H1=>sp (vs++yo) H1 Q E
def Rk(C:Addr)(sp:Sp)(yo:List V)(E:XK)(t:TA):TE:=λσ H Q=>t σ H λvs H1=>∀x dx,H1 x=none->H1 dx=none->dx≠x →
 sp (.ref x::(vs++yo)) (upd (upd H1 dx (.own x)) x (.ins C dx [])) (λv H2=>v= .iz/\Q (.ref x) H2) E
def Binds(K:PySem.W.Frag)(fd:FuncData)(ps:List Str)(ds:List Value):Prop :=
 ∀(s:Shared) (us:List Value),K.In s.heap->(us++ds).length=ps.length->BindsTo s fd ⟨us,[]⟩ (ps.zip (us++ds))
theorem Binds.all{K:PySem.W.Frag}{fd:FuncData}{ps:List Str}(h:∀us:List Value,us.length=ps.length->bindArgs fd ⟨us,[]⟩=pure (ps.zip us)):Binds K fd ps []:=λs us _ hl=>by
 rw[List.append_nil]at hl ⊢
 exact .of_eq (h us hl)
def Passes(CX:HR)(X:Cx)(E:XK):Prop:=∀(pins:List (Addr×Obj)) (σ:St) (H:Hp) (s:Shared) (e:Value) (s':Shared),Inv X pins σ H s->CX X.stack H s E e s'->X.xe e s'
section
variable{X:Cx}{CX:HR}{k:Nat}{f C:Addr}{fd:FuncData}{ps:List Str}{sp:Sp}{yo:List V}{ds:List Value}{E:XK}{x m:Str}{p pos apos:Pos}{e o:Expr}{es:List Expr}{ta:TE}{t:TA}
theorem OZ{pins:List (Addr×Obj)}{σ:St}{H:Hp}{s:Shared}{Q:VK}{us:List Value}{vs:List V}(F:aI X.prog X.w X.K X.mg X.base CX k f fd ps sp)(hr:jO k X.A)(hb:Binds X.K fd ps ds)(hd:Vals yo ds)(hx:Passes CX X E)
  (I:Inv X pins σ H s) (r:Vals vs us) (h:sp (vs++yo) H Q E):wpAny (model X.prog X.w) X.A (call (.ref f) us) (EP X pins σ Q) X.xe s:=by
 have r2:Vals (vs++yo) (us++ds):=r.append hd
 have hl:(us++ds).length=ps.length:=by rw[←r2.length];exact F.len _ _ _ _ h
 refine wpAny_call (codeAny_mono (F.run X.A X.stack s H ⟨us,[]⟩ (us++ds) (vs++yo) Q E hr I.Mp (hb s us I.pI hl) r2 h) λr s' hq=>?_)
 cases r with
 |error e=>exact hx pins σ H s e s' I hq
 |ok fl =>
  cases fl with
  |ret u=>exact I.after hq
  |next=>exact False.elim hq
  |brk=>exact False.elim hq
  |cont=>exact False.elim hq
theorem az(F:aI X.prog X.w X.K X.mg X.base CX k f fd ps sp)(hr:jO k X.A)(hg:Gl X x)(hm:X.mg x=some (.ref f))(hk:PySem.W.keepIn X.K (.ref f)=true)(hb:Binds X.K fd ps ds)(hd:Vals yo ds)(hx:Passes CX X E)
  (ha:PA X (e::es) t) (hdb:(x==("__debug__" :Str))=false:=by decide) (he:starEach (e::es) X.env=(false,eval e X.env)::starEach es X.env:=by rfl) (hpl:(backTo pos (starEach es X.env)).any (·.1)=false:=by rfl) :
  PE X (.Call (.Name x p) (e::es) [] pos) (Rp sp yo E t):=by
 intro pins s σ H Q I h
 refine wpAny_Call_Name_kw (nP I hg hm ?_ hdb)
 refine PySem.W.callWith_K (h₀:=X.base) I.ok.mod.MW hk (fh (ha pos pins s σ H _ I h) λus s1 ⟨vs,H1,I1,r,q⟩=>⟨I1.pI,?_⟩) he hpl
 exact OZ F hr hb hd hx I1 r q
structure Mk(K:PySem.W.Frag)(C f:Addr):Prop where
 makes:PySem.W.makesIn K C=true
 init:PySem.W.findIn K (.ref C) "__init__" =some (some (.ref f))
 fn:PySem.W.isFn K (.ref f)=true
 kp:PySem.W.keepIn K (.ref C)=true
theorem IU{pins:List (Addr×Obj)}{σ:St}{H:Hp}{s:Shared}{Q:VK}{us:List Value}{vs:List V}(M:Mk X.K C f)(F:aI X.prog X.w X.K X.mg X.base CX k f fd ps sp)(hr:jO (k+1) X.A)(hb:Binds X.K fd ps ds)(hd:Vals yo ds)
  (hx:Passes CX X E) (I:Inv X pins σ H s) (r:Vals vs us)
  (h:∀x dx,H x=none->H dx=none->dx≠x->sp (.ref x::(vs++yo)) (upd (upd H dx (.own x)) x (.ins C dx [])) (λv H2=>v= .iz/\Q (.ref x) H2) E) :
  wpAny (model X.prog X.w) X.A (call (.ref C) us) (EP X pins σ Q) X.xe s:=by
 have hq:=h (s.heap.objs.size+1) s.heap.objs.size (I.hok.fresh (Nat.le_succ _)) (I.hok.fresh (Nat.le_refl _)) (Nat.ne_of_lt (Nat.lt_succ_self _))
 have I2:=Inv.made (C:=C) I
 have r2:Vals (V.ref (s.heap.objs.size+1)::(vs++yo)) (Value.ref (s.heap.objs.size+1)::(us++ds)):=.cons rfl (r.append hd)
 have hl:(Value.ref (s.heap.objs.size+1)::us++ds).length=ps.length:=by
  have e:=r2.length
  rw[F.len _ _ _ _ hq]at e
  exact e.symm
 refine wpAny_call (Js (f:=f) I.pI M.makes M.init (beq_iff_eq.mp M.fn) (codeAny_mono (F.run _ X.stack _ _ ⟨Value.ref (s.heap.objs.size+1)::us,[]⟩ (Value.ref (s.heap.objs.size+1)::(us++ds)) _ _ E (hr.make C us [])
  (I2.Mp.make C us []) (hb _ (Value.ref (s.heap.objs.size+1)::us) I2.pI hl) r2 hq) λr s' hq'=>?_))
 cases r with
 |error e=>exact hx pins σ _ _ e s' I2 hq'
 |ok fl =>
  cases fl with
  |ret u =>
   obtain⟨v,H',I3,rv,ev,q3⟩:=I2.after hq'
   subst ev
   exact⟨rv,⟨V.ref (s.heap.objs.size+1),H',I3,rfl,q3⟩⟩
  |next=>exact False.elim hq'
  |brk=>exact False.elim hq'
  |cont=>exact False.elim hq'
theorem AE(M:Mk X.K C f)(F:aI X.prog X.w X.K X.mg X.base CX k f fd ps sp)(hr:jO (k+1) X.A)(hg:Gl X x)(hm:X.mg x=some (.ref C))(hb:Binds X.K fd ps ds)(hd:Vals yo ds)(hx:Passes CX X E)
  (ha:PA X (e::es) t) (hdb:(x==("__debug__" :Str))=false:=by decide) (he:starEach (e::es) X.env=(false,eval e X.env)::starEach es X.env:=by rfl) (hpl:(backTo pos (starEach es X.env)).any (·.1)=false:=by rfl) :
  PE X (.Call (.Name x p) (e::es) [] pos) (Rk C sp yo E t):=by
 intro pins s σ H Q I h
 refine wpAny_Call_Name_kw (nP I hg hm ?_ hdb)
 refine PySem.W.callWith_K (h₀:=X.base) I.ok.mod.MW M.kp (fh (ha pos pins s σ H _ I h) λus s1 ⟨vs,H1,I1,r,q⟩=>⟨I1.pI,?_⟩) he hpl
 exact IU M F hr hb hd hx I1 r q
end
section
variable{X:Cx}{CX:HR}{k:Nat}{f C:Addr}{fd:FuncData}{ps ks:List Str}{sp:Sp}{E:XK}{x m:Str}{p pos apos kpos:Pos}{e o:Expr}{es:List Expr}{kws:List Keyword}{te ta:TE}{t tk:TA}{nm:Option Str}
variable{g:List Value->List Value->List Value}{gV:List V->List V->List V}
end
structure aH(N P:List Str)(sc:Scope):Prop where
 kind:sc.kind= .function
 co:sc.isCoroutine=false
 gen:sc.isGenerator=false
 nd:N.Nodup
 pre:N.take P.length=P
 par:∀x∈P,sc.names.lookup x=some .local\/sc.names.lookup x=some .cell
 Pf:∀y∈sc.names,y.2≠ .free
theorem zV{kindOf:Str->Option NameKind}{x:Str}:∀{binds:List (Str×Value)} {m:Str->Option Value},(∀v,(x,v)∉binds)->bindL kindOf binds m x=m x
 |[],_,_=>rfl
 |(n,v)::r,m,h=>by
  unfold bindL
  rw[zV λw hw=>h w (List.mem_cons_of_mem _ hw)]
  split
  ·have:x≠n:=by rintro rfl;exact h v List.mem_cons_self
   simp[this]
  ·rfl
theorem zX{kindOf:Str->Option NameKind}{x:Str}:∀{binds:List (Str×Value)} {m:Str->Option Value},(∀v,(x,v)∉binds)->bindC kindOf binds m x=m x
 |[],_,_=>rfl
 |(n,v)::r,m,h=>by
  unfold bindC
  rw[zX λw hw=>h w (List.mem_cons_of_mem _ hw)]
  split
  ·rfl
  ·have:x≠n:=by rintro rfl;exact h v List.mem_cons_self
   simp[this]
theorem zW{kindOf:Str->Option NameKind}{x:Str}{v:Value}:∀{P:List Str} {vs:List Value} {i:Nat} {m:Str->Option Value},P.Nodup->P[i]? =some x->vs[i]? =some v->kindOf x=some .local →
  bindL kindOf (P.zip vs) m x=some v
 |[],_,_,_,_,h,_,_=>by simp at h
 |_::_,[],_,_,_,_,h,_=>by simp at h
 |p::P,w::vs,0,m,nd,h1,h2,hk=>by
  simp at h1 h2;subst h1;subst h2
  show bindL kindOf ((p,w)::P.zip vs) m p=_
  unfold bindL
  rw[zV λv hv=>(List.nodup_cons.mp nd).1 (List.of_mem_zip hv).1,if_pos hk]
  simp
 |p::P,w::vs,i+1,m,nd,h1,h2,hk=>by
  show bindL kindOf ((p,w)::P.zip vs) m x=_
  unfold bindL
  exact zW (i:=i) (List.nodup_cons.mp nd).2 (by simpa using h1) (by simpa using h2) hk
theorem zY{kindOf:Str->Option NameKind}{x:Str}{v:Value}:∀{P:List Str} {vs:List Value} {i:Nat} {m:Str->Option Value},P.Nodup->P[i]? =some x->vs[i]? =some v->kindOf x≠some .local →
  bindC kindOf (P.zip vs) m x=some v
 |[],_,_,_,_,h,_,_=>by simp at h
 |_::_,[],_,_,_,_,h,_=>by simp at h
 |p::P,w::vs,0,m,nd,h1,h2,hk=>by
  simp at h1 h2;subst h1;subst h2
  show bindC kindOf ((p,w)::P.zip vs) m p=_
  unfold bindC
  rw[zX λv hv=>(List.nodup_cons.mp nd).1 (List.of_mem_zip hv).1,if_neg hk]
  simp
 |p::P,w::vs,i+1,m,nd,h1,h2,hk=>by
  show bindC kindOf ((p,w)::P.zip vs) m x=_
  unfold bindC
  exact zY (i:=i) (List.nodup_cons.mp nd).2 (by simpa using h1) (by simpa using h2) hk
def start(N:List Str)(vs:List V):St:=vs.map some++List.replicate (N.length-vs.length) none
def tL(CX:HR)(P:Program)(w:World)(K:PySem.W.Frag)(mg:Str->Option Value)(base:Heap)(N:List Str)(qual:Str)(scope:Scope)(f:Addr)(cd:Value)(A:Around)(outer:List Env)(s:Shared)(H:Hp)(E:XK):Cx where
 prog:=P
 w:=w
 K:=K
 mg:=mg
 base:=base
 A:=A.deeper (envOfC qual scope s.heap.objs.size f cd)
 N:=N
 s₀:=s
 H₀:=H
 env:=envOfC qual scope s.heap.objs.size f cd
 outer:=outer
 stack:=envOfC qual scope s.heap.objs.size f cd::outer
 ex:=[]
 calm:=true
 fn:=λ_=>true
 pn:=[]
 xe:=λe s'=>wpAny (model P w) (A.deeper (envOfC qual scope s.heap.objs.size f cd)) (leaving (envOfC qual scope s.heap.objs.size f cd) e) (λ_ s''=>CX outer H s E e s'') (λe' s''=>CX outer H s E e' s'') s'
theorem Dy{sc:Scope}{n:Nat}{x:Str}(h:sc.names.lookup x=some .cell):∃c,(cellsFrom n sc.names []).lookup x=some c:=by
 have q:=PySem.W.cellsFrom_some sc.names n [] (.inl h)
 exact Option.isSome_iff_exists.mp q
theorem Hj{CX:HR}{P:Program}{w:World}{K:PySem.W.Frag}{mg:Str->Option Value}{base:Heap}{N ps:List Str}{qual:Str}{scope:Scope}{f:Addr}{cd:Value}{A:Around}{outer:List Env}{s s1:Shared}{H:Hp}{E:XK}{us:List Value}{vs:List V}
  (S:aH N ps scope) (hd:A.handled=none) (e0:Fi P w K mg base A outer s H) (hl:vs.length=ps.length) (r:Vals vs us)
  (x:InCallC s s.heap.objs.size (bindL (envOfC qual scope s.heap.objs.size f cd).kindOf (ps.zip us) λ_=>none) (cellsFrom (s.heap.objs.size+1) scope.names []) (bindC (envOfC qual scope s.heap.objs.size f cd).kindOf (ps.zip us) λ_=>none) s1) (hup:s.toks<=s1.toks) :
  Inv (tL CX P w K mg base N qual scope f cd A outer s H E) [] (start N vs) H s1:=by
 have hpl:ps.length<=N.length:=by have:=congrArg List.length S.pre;rw[List.length_take]at this;omega
 obtain⟨h1,tk,rfl,hk⟩:=x.done
 have htk:s.toks<=tk:=hup
 have WU:∀b:Addr,b∉(tL CX P w K mg base N qual scope f cd A outer s H E).ex:=λb z=>absurd (show b∈([]:List Addr) from z) (by simp)
 refine⟨⟨e0.mod,S.kind,rfl,rfl,Nat.le_refl _,λy z c h1 h2=>?_,λy hy=>?_,λy c _ h=>?_,λ_=>hd,Around.frames_deeper e0.frames,.inr ⟨rfl,rfl⟩,λb z=>absurd z (WU b),e0.bs,e0.Kv,λb _ _=>WU b,λb z=>absurd z (WU b),e0.rZ,e0.Mi,e0.tk⟩,
  rfl,e0.bare,Un.kept hk,⟨_,x.toInCall.ns,λi y v h1 h2 h3=>?_⟩,λy c h=>⟨_,x.cell y c h⟩,e0.hok.fresh (Nat.le_refl _),λy c h=>?_,λp hp=>absurd (show p∈([]:List (Addr×Obj)) from hp) (by simp),e0.hok.kept hk,?_,htk⟩
 ·exact name_of_addr x.apart (PySem.mem_of_lookup h1) (PySem.mem_of_lookup h2)
 ·have hy:scope.names.lookup y=some .cell\/scope.names.lookup y=some .free:=hy
  rcases hy with hy|hy
  ·exact Dy hy
  ·exact absurd rfl (S.Pf _ (PySem.mem_of_lookup hy))
 ·exact Nat.le_of_lt (x.above y c (PySem.mem_of_lookup h))
 ·have hi:i<vs.length:=by
   unfold start at h2
   by_cases hi:i<vs.length
   ·exact hi
   ·rw[List.getElem?_append_right (by simpa using hi)]at h2
    rw[List.getElem?_replicate]at h2
    split at h2<;>cases h2
  have ha:vs[i]? =some v:=by
   unfold start at h2
   rw[List.getElem?_append_left (by simpa using hi),List.getElem?_map]at h2
   cases e:vs[i]? with
   |none=>rw[e]at h2;cases h2
   |some a=>rw[e]at h2;cases h2;rfl
  obtain⟨u,hu,rv⟩:=r.get ha
  have hp:ps[i]? =some y:=by
   rw[←S.pre,List.getElem?_take_of_lt (by omega)];exact h1
  have Zo:ps.Nodup:=by rw[←S.pre];exact S.nd.sublist (List.take_sublist _ _)
  refine⟨u,rv,?_⟩
  rcases S.par y (List.mem_of_getElem? hp)with k|k
  ·exact .inl ⟨k,zW Zo hp hu k⟩
  ·obtain⟨c,e⟩:=Dy (n:=s.heap.objs.size+1) k
   refine .inr ⟨.inl k,c,e,?_⟩
   have q:=x.cell y c e
   rw[zY Zo hp hu (by show scope.names.lookup y≠_;rw[k];decide)]at q
   exact q
 ·exact e0.hok.fresh (Nat.le_of_lt (x.above y c (PySem.mem_of_lookup h)))
 ·unfold start
  show _=N.length
  rw[List.length_append,List.length_map,List.length_replicate]
  omega
theorem JY{CX:HR}{P:Program}{w:World}{K:PySem.W.Frag}{mg:Str->Option Value}{base:Heap}{k:Nat}{f:Addr}{name qual:Str}{params:Arguments}{body:List Stmt}{scope:Scope}{dV kV doc pm cdv ct oc:Value}{an od:Option Addr}
  {osl:Array (Option Value)} {N ps:List Str} {sp:Sp} (lk:K.lookup f=some ⟨oc,od,.func (PySem.W.fnOf name qual params body scope dV kV doc pm an cdv ct),osl⟩) (hcd:PySem.W.codeIn K cdv qual=true) (S:aH N ps scope)
  (len:∀vs H Q E,sp vs H Q E->vs.length=ps.length)
  (hbody:∀(A:Around) (outer:List Env) (s:Shared) (H:Hp) (vs:List V) (Q:VK) (E:XK),jO k (A.deeper (envOfC qual scope s.heap.objs.size f cdv))->sp vs H Q E →
   ∃t,Aa (tL CX P w K mg base N qual scope f cdv A outer s H E) body t/\t { nx:=λ_ H'=>Q .iz H',rt:=Q } (start N vs) H) :
  aI P w K mg base CX (k+1) f (PySem.W.fnOf name qual params body scope dV kV doc pm an cdv ct) ps sp:=by
 refine⟨len,λA outer s H args us vs Q E hr e0 hb r DY=>?_⟩
 have hl:=len _ _ _ _ DY
 have KX:K.In s.heap:=e0.mod.MW.keeps λb o e=>(e0.bs b o e).1
 have lim:s.heap.NoLimit:=e0.mod.nolimit.keeps λb o e=>(e0.bs b o e).1
 have hkind:∀y∈ps.zip us,scope.names.lookup y.1=some .local\/(scope.names.lookup y.1=some .cell/\((cellsFrom (s.heap.objs.size+1) scope.names []).lookup y.1).isSome=true):=λ⟨n,v⟩ hy=>by
  rcases S.par n (List.of_mem_zip hy).1 with q|q
  ·exact .inl q
  ·exact .inr ⟨q,PySem.W.cellsFrom_some _ _ _ (.inl q)⟩
 refine TK.E4 (Nat.le_refl _) ?_
 refine codeAny_call_function hr.depth (KX _ _ lk) rfl S.co S.gen rfl (PySem.W.codeRec_of KX hcd) (hb _ _ _ _ ?_)
 refine TK.bY (Nat.le_refl _) (wpAny_newFunctionEnv_cells S.kind hkind λenv he s1 x hup=>?_)
 subst he
 refine⟨lim.keeps x.toInCall.keep,codeAny_func ?_⟩
 obtain⟨t,ht,hq⟩:=hbody A outer s H vs Q E (hr.deeper _) DY
 have I:Inv (tL CX P w K mg base N qual scope f cdv A outer s H E) [] (start N vs) H s1:=Hj S hr.hd e0 hl r x hup
 refine wpAny_mono (ht [] s1 (start N vs) H _ I hq) (λfl s' hs Xu=>?_) λe s' hs=>wpAny_mono hs (λ_ _ z _=>z) λ_ _ z _=>z
 have fin:∀{σ':St} {H':Hp} {v:V} {u:Value},Inv (tL CX P w K mg base N qual scope f cdv A outer s H E) [] σ' H' s'->RelV v u->Q v H'->CE outer P w H s Q u s' :=
  λ{σ' H' v u} J rv q=>⟨v,H',J.os,J.bare,J.base,J.hok,rv,Xu,q⟩
 cases fl with
 |ret u =>
  obtain⟨v,σ',H',J,rv,q⟩:=hs
  exact fin J rv q
 |next =>
  obtain⟨σ',H',J,q⟩:=hs
  exact fin (v:=V.iz) (u:=Value.none) J rfl q
 |brk =>
  obtain⟨_,_,_,q⟩:=hs
  exact False.elim q
 |cont =>
  obtain⟨_,_,_,q⟩:=hs
  exact False.elim q
end L2
namespace L2
open PySem PySem.Spec PyProof.Rows
section
variable{X:Cx}{x:Str}{p pos:Pos}{e:Expr}{es:List Expr}{t:TA}{id T:String}{r:List V->Hp->VK->Prop}
def Y3(r:List V->Hp->VK->Prop)(t:TA):TE:=λσ H Q=>t σ H λvs H1=>r vs H1 Q
theorem aC (hc:lP X (.builtin id) r) (hg:Gl X x) (hm:X.mg x=none) (hv:bootBuiltins x=some (.builtin id)) (ha:PA X (e::es) t) (hn:x≠ "__name__" :=by decide) (hdb:(x==("__debug__" :Str))=false:=by decide)
  (he:starEach (e::es) X.env=(false,eval e X.env)::starEach es X.env:=by rfl) (hpl:(backTo pos (starEach es X.env)).any (·.1)=false:=by rfl):PE X (.Call (.Name x p) (e::es) [] pos) (Y3 r t):=by
 intro pins s σ H Q I h
 refine wpAny_Call_Name_kw (qi I hg hm hv ?_ hn hdb)
 exact PyProof.Rows.callWith_builtin1 (fh (ha pos pins s σ H _ I h) λus s1 ⟨vs,H1,I1,r1,q1⟩=>hc pins s1 σ H1 vs us Q I1 r1 q1) he hpl
theorem kI (hc:lP X (.type T) r) (hg:Gl X x) (hm:X.mg x=none) (hv:bootBuiltins x=some (.type T)) (ha:PA X (e::es) t) (hn:x≠ "__name__" :=by decide) (hdb:(x==("__debug__" :Str))=false:=by decide)
  (he:starEach (e::es) X.env=(false,eval e X.env)::starEach es X.env:=by rfl) (hpl:(backTo pos (starEach es X.env)).any (·.1)=false:=by rfl):PE X (.Call (.Name x p) (e::es) [] pos) (Y3 r t):=by
 intro pins s σ H Q I h
 refine wpAny_Call_Name_kw (qi I hg hm hv ?_ hn hdb)
 exact PyProof.Rows.callWith_type1 (fh (ha pos pins s σ H _ I h) λus s1 ⟨vs,H1,I1,r1,q1⟩=>hc pins s1 σ H1 vs us Q I1 r1 q1) he hpl
end
end L2
namespace HT
open PySem PyProof.Rows
section
open PySem.SeqAt
open PySem.AutoSeq1 (wpAny_loadPart')
open PySem.MeetsSeq PySem.MeetsSeq2 PySem.MeetsSeq3
end
section
variable{prog:Program}{w:World}{A:Around}{E:Value->Shared->Prop}{s:Shared}
theorem Mq{t b:Addr}{vs ws:List Value}{Q:Value->Shared->Prop}(ht:IsTup s.heap t vs.toArray)(hb:IsTup s.heap b ws.toArray)(hv:vs≠[])
  (h1:ws=[]->Q (.ref t) s) (h2:ws≠[]->Q (.ref s.heap.objs.size) { s with heap:=s.heap.push { cls:=.type "tuple",data:=.seq (vs++ws).toArray } })
  (hsz:vs.length+ws.length<=sizeLine):wpAny (model prog w) A (binaryOp .Add (.ref t) (.ref b)) Q E s:=by
 obtain⟨⟨cls,dd,data,sl⟩,ho,hc,n,hd⟩:=id ht
 obtain⟨⟨acj,dd2,data2,sl2⟩,ho2,hc2,n2,hd2⟩:=id hb
 simp only at hc hd hc2 hd2
 subst hc hd hc2 hd2
 have e:vs.toArray++ws.toArray=(vs++ws).toArray:=by simp
 by_cases hw:ws=[]
 ·exact concat_meets ⟨_,ho,rfl⟩ ⟨_,ho2,rfl⟩ noFill_tuple_add seq_tuple_add PySem.F.slot_tuple_add PySem.F.entry_tuple_add (PySem.F.args_tuple_add_2 _ _)
   (tuple_addW1 t b vs.toArray ws.toArray n n2 dd dd2 sl sl2 (by simpa using hv) (by simp[hw])) ⟨ho,ho2,h1 hw⟩
 ·refine concat_meets ⟨_,ho,rfl⟩ ⟨_,ho2,rfl⟩ noFill_tuple_add seq_tuple_add PySem.F.slot_tuple_add PySem.F.entry_tuple_add (PySem.F.args_tuple_add_2 _ _)
   (tuple_addW2 t b vs.toArray ws.toArray n n2 dd dd2 sl sl2 (by simpa using hv) (by simpa using hw) (by rw[List.size_toArray,List.size_toArray];exact hsz)) ⟨ho,ho2,?_⟩
  rw[e]
  exact h2 hw
end
end HT
namespace L2
open PySem PySem.Spec PyProof.Rows
abbrev TO:=St->Hp->(Option Int->Hp->Prop)->Prop
def PO(X:Cx)(e:Option Expr)(t:TO):Prop :=
 ∀(pins:List (Addr×Obj)) (s:Shared) (σ:St) (H:Hp) (Q:Option Int->Hp->Prop),Inv X pins σ H s->t σ H Q →
  wpAny (model X.prog X.w) X.A (evalPart e X.env) (λu s'=>∃o H',Inv X pins σ H' s'/\IsPart u o/\Q o H') X.xe s
def Lh:TO:=λ_ H Q=>Q none H
def Rc(t:TE):TO:=λσ H Q=>t σ H λx H1=>∃i,x= .int i/\Q (some i) H1
section
variable{X:Cx}{e:Expr}{te:TE}{lo hi:Option Expr}{tl th:TO}{pos p2:Pos}
theorem FW:PO X none Lh:=by
 intro pins s σ H Q I h
 rw[evalPart_none]
 exact wpAny_pure ⟨none,H,I,.none,h⟩
theorem FU(h:PE X e te):PO X (some e) (Rc te):=by
 intro pins s σ H Q I hw
 rw[evalPart_some]
 refine fh (h pins s σ H _ I hw) λu s1 ⟨x,H1,I1,r1,q1⟩=>?_
 obtain⟨i,rfl,q⟩:=q1
 obtain⟨t,rfl⟩:=r1
 exact⟨some i,H1,I1,.int i t,q⟩
def SlR(X:Cx)(r:V->Option Int->Option Int->Hp->VK->Prop):Prop :=
 ∀(pins:List (Addr×Obj)) (s:Shared) (σ:St) (H:Hp) (x:V) (v vl vu:Value) (lo hi:Option Int) (sl:Addr) (Q:VK),Inv X pins σ H s->RelV x v->s.heap.IsSliceOf sl vl vu .none->IsPart vl lo->IsPart vu hi->r x lo hi H Q →
  ∃T id,typeLookup (.type T) "__getitem__" =pure (some (.builtin id))/\s.TypeIs v T/\wpAny (model X.prog X.w) X.A (getItem v (.ref sl)) (EP X pins σ Q) X.xe s
def tSl(r:V->Option Int->Option Int->Hp->VK->Prop)(te:TE)(tl th:TO):TE:=λσ H Q=>te σ H λx H1=>tl σ H1 λl H2=>th σ H2 λu H3=>r x l u H3 Q
theorem CA{r:V->Option Int->Option Int->Hp->VK->Prop}(hr:SlR X r)(he:PE X e te)(hl:PO X lo tl)(hu:PO X hi th):PE X (.Subscript e (.Slice lo hi none p2) pos) (tSl r te tl th):=by
 intro pins s σ H Q I h
 refine Subscript_ (fh (he pins s σ H _ I h) λv s1 ⟨x,H1,I1,r1,q1⟩=>?_)
 refine wpAny_Slice (fh (hl pins s1 σ H1 _ I1 q1) λvl s2 ⟨l,H2,I2,pl,q2⟩=>fh (hu pins s2 σ H2 _ I2 q2) λvu s3 ⟨u,H3,I3,pu,q3⟩=>?_)
 rw[evalPart_none]
 refine wpAny_pure ?_
 have I4:Inv X pins σ H3 { s3 with heap:=s3.heap.push { cls:=.type "slice",data:=.fields #[vl,vu,.none] } }:=I3.kept (t':=s3.toks) λb ob q=>Heap.get?_push_of_some _ q
 obtain⟨T,id,hT,ht,hg⟩:=hr pins { s3 with heap:=s3.heap.push { cls:=.type "slice",data:=.fields #[vl,vu,.none] } } σ H3 x v vl vu l u s3.heap.objs.size Q I4 r1 (Heap.IsSliceOf.new ..) pl pu q3
 show wpAny (model X.prog X.w) X.A (subscriptTail e (.Slice lo hi none p2) v (.ref s3.heap.objs.size)) (EP X pins σ Q) X.xe { s3 with heap:=s3.heap.push { cls:=.type "slice",data:=.fields #[vl,vu,.none] } }
 exact tail_any (ops:=[.ref s3.heap.objs.size,v]) ht hT hg (by with_unfolding_all rfl)
def RG(K:PySem.W.Frag):R2:=λx y H Q=>∃a b xs ys,x= .ref a/\y= .ref b/\dR K H a xs/\dR K H b ys/\xs≠[]/\xs.length+ys.length<=sizeLine ∧
 (ys=[]->Q (.ref a) H)/\(ys≠[]->∀p,H p=none->Q (.ref p) (upd H p (.tup (xs++ys))))
theorem Vals.AW{xs:List V}{us:List Value}(r:Vals xs us):us=[]↔xs=[]:=by
 cases r with
 |nil=>simp
 |cons _ _=>simp
theorem F2:uQ X (binaryOp .Add) (RG X.K):=by
 intro pins s σ H x y v u Q I rx ry h
 obtain⟨a,b,xs,ys,rfl,rfl,ha,hb,hx,hz,q1,q2⟩:=h
 cases rx
 cases ry
 obtain⟨its,r1,p1,_⟩:=I.tuple ha
 obtain⟨its2,r2,p2,_⟩:=I.tuple hb
 refine HT.Mq p1 p2 (λz=>hx (r1.AW.mp z)) (λz=>⟨.ref a,H,I,rfl,q1 (r2.AW.mp z)⟩) (λz=>?_) (by rw[←r1.length,←r2.length];exact hz)
 refine⟨.ref s.heap.objs.size,_,I.laid (t':=s.toks) (o:=.tup (xs++ys)) (λb ob q=>Heap.get?_push_of_some _ q) (Nat.le_refl _) ?_,rfl,q2 (λw=>z (r2.AW.mpr w)) _ (I.hok.fresh (Nat.le_refl _))⟩
 exact⟨by rw[List.length_append];exact hz,_,r1.append r2,IsTup.new _ _⟩
end
end L2
namespace L2
open PySem PySem.Spec PyProof.Rows
def LY(n:Nat)(i:Int):Option Nat:=if 0<=i then(if i<n then some i.toNat else none)else if -(n:Int)<=i then some (i+n).toNat else none
def z0{α:Type}(xs:List α)(i:Int):Option α:=(LY xs.length i).bind λj=>xs[j]?
theorem F8{n:Nat}{i:Int}{j:Nat}(h:LY n i=some j):seqIndex? i n=some j/\j<n/\ -(n:Int)<=i/\i<n:=by
 unfold LY at h
 by_cases h0:0<=i
 ·rw[if_pos h0]at h
  by_cases h1:i<n
  ·rw[if_pos h1]at h
   have e:i.toNat=j:=Option.some.inj h
   exact⟨by rw[seqIndex_of h0 h1,e],by omega,by omega,h1⟩
  ·rw[if_neg h1]at h;cases h
 ·rw[if_neg h0]at h
  by_cases h1: -(n:Int)<=i
  ·rw[if_pos h1]at h
   have e:(i+n).toNat=j:=Option.some.inj h
   exact⟨by rw[seqIndex_neg (by omega) h1,e],by omega,h1,by omega⟩
  ·rw[if_neg h1]at h;cases h
theorem Bs{α:Type}{xs:List α}{i:Int}{v:α}(h:z0 xs i=some v):∃j,seqIndex? i xs.length=some j/\xs[j]? =some v/\j<xs.length/\ -(xs.length:Int)<=i/\i<xs.length:=by
 unfold z0 at h
 cases e:LY xs.length i with
 |none=>rw[e]at h;cases h
 |some j =>
  rw[e]at h
  obtain⟨h1,h2,h3,h4⟩:=F8 e
  exact⟨j,h1,h,h2,h3,h4⟩
theorem ee{α:Type}{xs:List α}{j:Nat}{v:α}(h:xs[j]? =some v):z0 xs (j:Int)=some v:=by
 have hj:j<xs.length:=(List.getElem?_eq_some_iff.mp h).1
 have e:LY xs.length (j:Int)=some j:=by
  unfold LY
  rw[if_pos (by omega),if_pos (by omega)];simp
 unfold z0;rw[e];exact h
def My(b:Expr):Prop:=∀o i,subscripted b false o i=operate [o,i] (getItem o i)
def TR(X:Cx)(r:R2):Prop :=
 ∀(value slice:Expr) (pins:List (Addr×Obj)) (s:Shared) (σ:St) (H:Hp) (x y:V) (v u:Value) (Q:VK),Inv X pins σ H s->RelV x v->RelV y u->r x y H Q →
  subscripted slice false v u=operate [v,u] (getItem v u)->wpAny (model X.prog X.w) X.A (subscriptTail value slice v u) (EP X pins σ Q) X.xe s
def YS(X:Cx)(id:String)(r:V->List V->Hp->VK->Prop):Prop :=
 ∀(pins:List (Addr×Obj)) (s:Shared) (σ:St) (H:Hp) (x:V) (xs:List V) (v:Value) (us:List Value) (Q:VK),Inv X pins σ H s->RelV x v->Vals xs us->r x xs H Q →
  wpAny (model X.prog X.w) X.A (call (.builtin id) (v::us)) (EP X pins σ Q) X.xe s
section
variable{X:Cx}{a b:Expr}{ta tb:TE}{pos:Pos}
theorem aW{r:R2}(hr:TR X r)(ha:PE X a ta)(hb:PE X b tb)(hs:My b):PE X (.Subscript a b pos) (Ue r ta tb):=by
 intro pins s σ H Q I h
 exact Subscript_ (Qy ha hb I h λv u s2 x y H2 I2 rx ry q=>hr a b pins s2 σ H2 x y v u Q I2 rx ry q (hs _ _))
def WD(K:PySem.W.Frag):R2:=λx y H Q=>∃p xs i v,x= .ref p/\y= .int i/\bI K H p xs/\z0 xs i=some v/\Q v H
def RE(K:PySem.W.Frag):R2:=λx y H Q=>∃p xs i v,x= .ref p/\y= .int i/\dR K H p xs/\z0 xs i=some v/\Q v H
def WC:R2:=λx y H Q=>∃z i c,x= .str z/\y= .int i/\z.length<=sizeLine/\z0 z.cps.toList i=some c/\Q (.str ⟨#[c]⟩) H
theorem bC:TR X (WD X.K):=by
 intro value slice pins s σ H x y v u Q I rx ry h hs
 obtain⟨p,xs,i,z,rfl,rfl,hq,he,q⟩:=h
 cases rx
 obtain⟨t,rfl⟩:=ry
 obtain⟨its,r,pl,hz⟩:=I.list hq
 obtain⟨j,h1,h2,h3,h4,h5⟩:=Bs he
 obtain⟨w,ew,rw'⟩:=r.get h2
 have hl:=r.length
 have hn:=uH
 have fin:EP X pins σ Q w s:=⟨z,H,I,rw',q⟩
 by_cases h0:0<=i
 ·have hj:i.toNat=j:=by
   rw[seqIndex_of h0 h5]at h1
   exact Option.some.inj h1
  exact item_listR pl.isList h0 (by omega) (by rw[hj];simpa using ew) fin hs
 ·have hj:(i+(its.toArray.size:Int)).toNat=j:=by
   rw[seqIndex_neg (by omega) h4]at h1
   rw[List.size_toArray,←hl]
   exact Option.some.inj h1
  exact subscriptTail_builtinR (x:=w) pl.isList.typeIs slot_list_getitem.lookup
   (wpAny_getItem_list_neg (Q:=λr s'=>r=w/\EP X pins σ Q r s') pl.isList (by omega) (by rw[List.size_toArray]<;>omega) (by omega) (by rw[hj];simpa using ew) ⟨rfl,fin⟩) hs
theorem cX:TR X (RE X.K):=by
 intro value slice pins s σ H x y v u Q I rx ry h hs
 obtain⟨p,xs,i,z,rfl,rfl,hq,he,q⟩:=h
 cases rx
 obtain⟨t,rfl⟩:=ry
 obtain⟨its,r,pl,hz⟩:=I.tuple hq
 obtain⟨j,h1,h2,h3,h4,h5⟩:=Bs he
 obtain⟨w,ew,rw'⟩:=r.get h2
 have hl:=r.length
 have hn:=uH
 have fin:EP X pins σ Q w s:=⟨z,H,I,rw',q⟩
 exact subscriptTail_builtinR (x:=w) pl.typeIs slot_tuple_getitem.lookup
  (getItem_tuple (j:=j) (Q:=λr s'=>r=w/\EP X pins σ Q r s') pl (by omega) (by omega) (by rw[List.size_toArray,←hl];exact h1) (by simpa using ew) ⟨rfl,fin⟩) hs
theorem uJ:TR X WC:=by
 intro value slice pins s σ H x y v u Q I rx ry h hs
 obtain⟨z,i,c,rfl,rfl,hz,he,q⟩:=h
 obtain⟨t,rfl⟩:=rx
 obtain⟨t',rfl⟩:=ry
 obtain⟨j,h1,h2,h3,h4,h5⟩:=Bs he
 have hl:z.cps.toList.length=z.length:=by simp[Str.length]
 rw[hl]at h1 h4 h5
 have hn:=uH
 exact tail_any (typeIs_str s z t) slot_str_getitem.lookup (getItem_str (c:=c) (by
  have e1:decide (i< -(2 ^ 63:Int))=false:=decide_eq_false (by omega)
  have e2:decide (i>=2 ^ 63)=false:=decide_eq_false (by omega)
  rw[e1,e2,Bool.or_false]) (by rw[h1];simpa using h2) ⟨.str ⟨#[c]⟩,H,I.tok _,⟨_,rfl⟩,q⟩) hs
theorem EI(its:List Value)(n j:Nat)(u:Value):Obj.mapSeq (·.setIfInBounds j u) { cls:=.type "list",data:=.seq its.toArray n }={ cls:=.type "list",data:=.seq (its.set j u).toArray n }:=by
 simp[Obj.mapSeq]
theorem Inv.lst{pins:List (Addr×Obj)}{σ:St}{H:Hp}{s:Shared}{p:Addr}{xs:List V}(I:Inv X pins σ H s)(h:H p=some (.lst xs)):
  ∃(its:List Value) (n:Nat),Vals xs its/\s.heap.get? p=some { cls:=.type "list",data:=.seq its.toArray n }/\xs.length<=sizeLine:=by
 obtain⟨z,its,n,r,e⟩:=I.hok p _ h
 exact⟨its,n,r,e,z⟩
theorem Inv.Pk{pins:List (Addr×Obj)}{σ:St}{H:Hp}{s:Shared}{p:Addr}{xs ys:List V}{its its':List Value}{n n':Nat}{f:Obj->Obj}(I:Inv X pins σ H s)(h:H p=some (.lst xs))
  (ho:s.heap.get? p=some { cls:=.type "list",data:=.seq its.toArray n }) (hf:f { cls:=.type "list",data:=.seq its.toArray n }={ cls:=.type "list",data:=.seq its'.toArray n' }) (r:Vals ys its') (hz:ys.length<=sizeLine) (t:Nat) (ht:s.toks<=t:=by first|exact Nat.le_refl _|exact Nat.le_succ _|assumption|omega) :
  Inv X pins σ (upd H p (.lst ys)) { s with heap:=s.heap.update p f,toks:=t }:=by
 have e:(s.heap.update p f).get? p=some { cls:=.type "list",data:=.seq its'.toArray n' }:=by
  rw[Heap.get?_update_self f ho (by rw[hf]<;>rfl),hf]
 refine I.write (x:=p) (e:=p) (by rw[h];trivial) (.inl rfl) (λb u hb q=>(Heap.get?_update_other _ _ (Ne.symm hb)).trans q) ⟨_,e⟩ ?_
 exact⟨hz,its',n',r,e⟩
def RD:V->V->V->Hp->(Hp->Prop)->Prop:=λo i v H Q=>∃p xs k j,o= .ref p/\i= .int k/\H p=some (.lst xs)/\LY xs.length k=some j/\Q (upd H p (.lst (xs.set j v)))
theorem set_list:Tz X RD:=by
 intro pins s σ H o i v ov iv u Q I ro ri rv h
 obtain⟨p,xs,k,j,rfl,rfl,hp,hj,q⟩:=h
 cases ro
 obtain⟨t,rfl⟩:=ri
 obtain⟨its,n,r,ho,hz⟩:=I.lst hp
 obtain⟨h1,h2,h3,h4⟩:=F8 hj
 have hl:=r.length
 have hn:=uH
 have I':Inv X pins σ (upd H p (.lst (xs.set j v))) { s with heap:=s.heap.update p (Obj.mapSeq (·.setIfInBounds j u)) } :=
  I.Pk hp ho (EI its n j u) (r.set rv j) (by rw[List.length_set];exact hz) s.toks
 by_cases h0:0<=k
 ·have hk:k.toNat=j:=by
   rw[seqIndex_of h0 h4]at h1
   exact Option.some.inj h1
  exact PySem.W.ki_setAt ho h0 (by omega) (by rw[List.size_toArray,←hl];exact h4) (by rw[hk];exact⟨_,I',q⟩)
 ·have hk:(k+(its.toArray.size:Int)).toNat=j:=by
   rw[seqIndex_neg (by omega) h3]at h1
   rw[List.size_toArray,←hl]
   exact Option.some.inj h1
  exact PySem.W.ki_setBack ho (by omega) (by rw[List.size_toArray,←hl];exact h3) (by omega) (by rw[hk];exact⟨_,I',q⟩)
def vn:V->Bool
 | .iz=>true
 | .bl _=>true
 | .int _=>true
 | .str _=>true
 |_=>false
def Mm:V->V->Bool
 | .iz,.iz=>true
 | .bl a,.bl b=>a==b
 | .bl a,.int b=>(if a then 1 else 0)==b
 | .int a,.bl b=>a==(if b then 1 else 0)
 | .int a,.int b=>a==b
 | .str a,.str b=>a==b
 |_,_=>false
theorem Qm{A:Around}{s:Shared}{y x:V}{u v:Value}(ry:RelV y u)(rx:RelV x v)(fy:vn y=true)(fx:vn x=true):SeqAt.EqAt A s u v (Mm y x):=by
 cases y with
 |iz =>
  cases ry
  cases x with
  |iz=>cases rx;exact SeqAt.EqAt.same _
  |bl b=>cases rx;exact SeqAt.EqAt.none_bool b
  |int b=>obtain⟨t,rfl⟩:=rx;exact SeqAt.EqAt.none_int b t
  |str b=>obtain⟨t,rfl⟩:=rx;exact SeqAt.EqAt.none_str b t
  |_=>exact absurd (show false=true from fx) Bool.false_ne_true
 |bl a =>
  cases ry
  cases x with
  |iz=>cases rx;exact SeqAt.EqAt.bool_none a
  |bl b=>cases rx;exact SeqAt.EqAt.bool_bool a b
  |int b=>obtain⟨t,rfl⟩:=rx;exact SeqAt.EqAt.bool_int a b t
  |str b=>obtain⟨t,rfl⟩:=rx;exact SeqAt.EqAt.bool_str a b t
  |_=>exact absurd (show false=true from fx) Bool.false_ne_true
 |int a =>
  obtain⟨t',rfl⟩:=ry
  cases x with
  |iz=>cases rx;exact SeqAt.EqAt.int_none a t'
  |bl b=>cases rx;exact SeqAt.EqAt.int_bool a t' b
  |int b=>obtain⟨t,rfl⟩:=rx;exact SeqAt.EqAt.int_int a t' b t
  |str b=>obtain⟨t,rfl⟩:=rx;exact SeqAt.EqAt.int_str a t' b t
  |_=>exact absurd (show false=true from fx) Bool.false_ne_true
 |str a =>
  obtain⟨t',rfl⟩:=ry
  cases x with
  |iz=>cases rx;exact SeqAt.EqAt.str_none a t'
  |bl b=>cases rx;exact SeqAt.EqAt.str_bool a t' b
  |int b=>obtain⟨t,rfl⟩:=rx;exact SeqAt.EqAt.str_int a t' b t
  |str b=>obtain⟨t,rfl⟩:=rx;exact SeqAt.EqAt.str_str a t' b t
  |_=>exact absurd (show false=true from fx) Bool.false_ne_true
 |_=>exact absurd (show false=true from fy) Bool.false_ne_true
def Mn(x:V)(u:Value):Bool:=match u with
 | .none=>Mm .iz x
 | .bool b=>Mm (.bl b) x
 | .int i _=>Mm (.int i) x
 | .str z _=>Mm (.str z) x
 |_=>false
theorem Kd{x y:V}{u:Value}(r:RelV y u)(f:vn y=true):Mn x u=Mm y x:=by
 cases y with
 |iz=>cases r;rfl
 |bl b=>cases r;rfl
 |int i=>obtain⟨t,rfl⟩:=r;rfl
 |str z=>obtain⟨t,rfl⟩:=r;rfl
 |_=>exact absurd (show false=true from f) Bool.false_ne_true
theorem Bt{x:V}:∀{xs:List V} {us:List Value},Vals xs us->xs.all vn=true->us.any (Mn x)=xs.any λy=>Mm y x
 |_,_,.nil,_=>rfl
 |y::xs,u::us,.cons r t,f=>by
  rw[List.all_cons,Bool.and_eq_true]at f
  rw[List.any_cons,List.any_cons,Kd r f.1,Bt t f.2]
theorem xF{A:Around}{s:Shared}{x:V}{v:Value}(rx:RelV x v)(fx:vn x=true):∀{xs:List V} {us:List Value},Vals xs us->xs.all vn=true->∀u∈us,SeqAt.EqAt A s u v (Mn x u)
 |_,_,.nil,_=>λu hu=>by cases hu
 |y::xs,u::us,.cons r t,f=>λu' hu=>by
  rw[List.all_cons,Bool.and_eq_true]at f
  rcases List.mem_cons.mp hu with rfl|hu
  ·rw[Kd r f.1];exact Qm r rx f.1 fx
  ·exact xF rx fx t f.2 u' hu
def L4(x:V)(xs:List V):Bool:=xs.any λy=>Mm y x
def rIn(K:PySem.W.Frag)(neg:Bool):R2:=λx y H Q=>∃p xs,y= .ref p/\(bI K H p xs\/dR K H p xs)/\vn x=true/\xs.all vn=true/\Q (.bl (if neg then !L4 x xs else L4 x xs)) H
theorem sV:uQ X (compareOp .NotIn) (rIn X.K true):=by
 intro pins s σ H x y v u Q I rx ry h
 obtain⟨p,xs,rfl,hq,fx,fs,q⟩:=h
 cases ry
 rcases hq with hq|hq
 ·obtain⟨its,r,pl,hz⟩:=I.list hq
  refine SeqAt.notIn_listAt (Mn x) pl.isList (λw hw=>xF rx fx r fs w (by simpa using hw)) ⟨.bl _,H,I,rfl,?_⟩
  rw[show its.toArray.any (Mn x)=its.any (Mn x) by simp,Bt r fs]
  exact q
 ·obtain⟨its,r,pl,hz⟩:=I.tuple hq
  refine SeqAt.notIn_tupleAt (Mn x) pl (λw hw=>xF rx fx r fs w (by simpa using hw)) ⟨.bl _,H,I,rfl,?_⟩
  rw[show its.toArray.any (Mn x)=its.any (Mn x) by simp,Bt r fs]
  exact q
theorem sU:uQ X (compareOp .NotIn) (λx y H Q=>∃i j,x= .str i/\y= .str j/\Q (.bl (!(!(Builtin.Str.occurrences j i 0 j.length 1).isEmpty))) H):=by
 intro pins s σ H x y v u Q I rx ry h
 obtain⟨i,j,rfl,rfl,q⟩:=h
 obtain⟨t,rfl⟩:=rx
 obtain⟨t',rfl⟩:=ry
 exact notIn_str ⟨.bl _,H,I,rfl,q⟩
theorem Bm:lP X (.builtin "len") (λxs H Q=>∃z,xs=[.str z]/\z.length<=sizeLine/\Q (.int z.length) H):=by
 intro pins s σ H xs us Q I r h
 obtain⟨z,rfl,hz,q⟩:=h
 obtain⟨u,rfl,t,rfl⟩:=vals1 r
 have hn:=uH
 exact len_str (by omega) ⟨.int z.length,H,I.tok _,⟨_,rfl⟩,q⟩
theorem rz:lP X (.type "tuple") (λxs H Q=>∃p ys,xs=[.ref p]/\((bI X.K H p ys/\∀l,H l=none->Q (.ref l) (upd H l (.tup ys)))\/(dR X.K H p ys/\Q (.ref p) H))):=by
 intro pins s σ H xs us Q I r h
 obtain⟨p,ys,rfl,h⟩:=h
 obtain⟨u,rfl,rx⟩:=vals1 r
 cases rx
 rcases h with⟨hq,q⟩|⟨hq,q⟩
 ·obtain⟨its,r',pl,hz⟩:=I.list hq
  have hlen:=r'.length
  refine call_tuple_list pl.isList (λh' kp=>?_) (by simp only[List.size_toArray]<;>omega)
  have I1:Inv X pins σ H { s with heap:=h' }:=I.kept (t':=s.toks) kp
  have I2:Inv X pins σ (upd H h'.objs.size (.tup ys)) { s with heap:=h'.push { cls:=.type "tuple",data:=.seq its.toArray } } :=
   I1.laid (t':=s.toks) (λb o e=>Heap.get?_push_of_some _ e) (Nat.le_refl _) (show bQ X.prog X.w _ _ _ (.tup ys) from⟨hz,its,r',IsTup.new _ _⟩)
  exact⟨.ref h'.objs.size,_,I2,rfl,q _ (I1.hok.fresh (Nat.le_refl _))⟩
 ·obtain⟨its,r',pl,hz⟩:=I.tuple hq
  exact call_tuple_same pl ⟨.ref p,H,I,rfl,q⟩
def Y0(K:PySem.W.Frag)(T:String)(x:V)(H:Hp):Prop:=match x with
 | .str _=>T= "str"
 | .int _=>T= "int"
 | .ref p=>(T= "list" /\∃xs,bI K H p xs)\/(T= "tuple" /\∃o,K.lookup p=some o/\o.cls= .type "tuple" /\o.dict=none) ∨
   (T= "dict" /\((∃kvs,H p=some (.dK kvs))\/∃kvs,H p=some (.dT kvs)))\/(T= "set" /\∃S n,H p=some (.set S n))
 |_=>False
theorem OJ{pins:List (Addr×Obj)}{σ:St}{H:Hp}{s:Shared}{T:String}{x:V}{v:Value}(I:Inv X pins σ H s)(r:RelV x v)(ty:Y0 X.K T x H):
  s.TypeIs v T/\∀a,v= .ref a->∃ob,s.heap.get? a=some ob/\ob.dict=none:=by
 cases x with
 |str z =>
  obtain⟨t,rfl⟩:=r
  cases (show T= "str" from ty)
  exact⟨typeIs_str s z t,λ_ e=>nomatch e⟩
 |int i =>
  obtain⟨t,rfl⟩:=r
  cases (show T= "int" from ty)
  exact⟨typeIs_int s i t,λ_ e=>nomatch e⟩
 |ref p =>
  cases r
  rcases ty with⟨rfl,xs,hq⟩|⟨rfl,o,hk,hc,hd⟩|⟨rfl,hk⟩|⟨rfl,S,n,hk⟩
  ·obtain⟨its,_,pl,_⟩:=I.list hq
   refine⟨pl.isList.typeIs,λa e=>?_⟩
   cases e
   obtain⟨o,n,e,c,hd,_⟩:=pl
   exact⟨o,e,hd⟩
  ·refine⟨⟨o,I.pI p o hk,hc⟩,λa e=>?_⟩
   cases e
   exact⟨o,I.pI _ o hk,hd⟩
  ·have z:∃o,s.heap.get? p=some o/\o.ExactDict:=by
    rcases hk with⟨kvs,hk⟩|⟨kvs,hk⟩
    ·obtain⟨_,_,_,_,o,_,_,e,ex,_⟩:=I.hok p _ hk
     exact⟨o,e,ex⟩
    ·obtain⟨_,_,_,_,o,_,_,e,ex,_⟩:=I.hok p _ hk
     exact⟨o,e,ex⟩
   obtain⟨o,e,ex⟩:=z
   refine⟨⟨o,e,ex.1⟩,λa e2=>?_⟩
   cases e2
   exact⟨o,e,ex.2.1⟩
  ·obtain⟨o,_,_,_,e,ex,_⟩:=I.hok p _ hk
   refine⟨⟨o,e,ex.1⟩,λa e2=>?_⟩
   cases e2
   exact⟨o,e,ex.2.1⟩
 |_=>exact False.elim ty
def tBM(K:PySem.W.Frag)(T:String)(r:V->List V->Hp->VK->Prop)(to:TE)(t:TA):TE:=λσ H Q=>to σ H λx H1=>Y0 K T x H1/\t σ H1 λxs H2=>r x xs H2 Q
variable{o e:Expr}{es:List Expr}{to:TE}{t:TA}{name:Str}{apos cpos:Pos}{T id:String}{r:V->List V->Hp->VK->Prop}
theorem mU (pa:PlainAttrs T) (slot:Slot T name id) (hty:typeOf (.builtin id)=pure (.type "method_descriptor")) (hm:YS X id r) (ho:PE X o to) (ha:PA X (e::es) t)
  (hbase:attributeBase o name X.env (eval o X.env)=eval o X.env:=by rfl)
  (hfew:((backTo cpos (starEach (e::es) X.env)).all (λx=>!x.1)&&(backToKw cpos (keywordEach [] X.env)).all (λx=>x.1.isSome)
   && decide ((e::es).length+([]:List Keyword).length+(if([]:List Keyword).isEmpty then 0 else 1)<30))=true:=by rfl)
  (hline:(apos.endLine==cpos.line)=true:=by rfl) (hs:starEach (e::es) X.env=(false,eval e X.env)::starEach es X.env:=by rfl) (hplain:(backTo cpos (starEach es X.env)).any (·.1)=false:=by rfl) :
  PE X (.Call (.Attribute o name apos) (e::es) [] cpos) (tBM X.K T r to t):=by
 intro pins s σ H Q I h
 refine wpAny_Call_method_late hbase hfew hline rfl (fh (ho pins s σ H _ I h) λv s1 ⟨x,H1,I1,r1,ty,q1⟩=>?_)
 obtain⟨h1,h2⟩:=OJ I1 r1 ty
 refine⟨T,id,pa,slot,hty,h1,h2,?_⟩
 have hA:=ha cpos pins s1 σ H1 _ I1 q1
 rw[hs]at hA ⊢
 refine Calls.callWith_builtin (by show(false||(backTo cpos (starEach es X.env)).any (·.1))=false;rw[hplain]<;>rfl) (Calls.evalArgs_plain ?_)
 exact fh hA λus s2 ⟨vs,H2,I2,r2,q2⟩=>hm pins s2 σ H2 x vs v us Q I2 r1 r2 q2
end
end L2
namespace L2
open PySem PySem.Spec PyProof.Rows
def MtM(X:Cx)(id:String)(r:V->List V->Hp->VK->Prop):Prop :=
 ∀(pins:List (Addr×Obj)) (s:Shared) (σ:St) (H:Hp) (x:V) (xs:List V) (v:Value) (us:List Value) (Q:VK),Inv X pins σ H s->RelV x v->Vals xs us->r x xs H Q →
  wpAny (model X.prog X.w) X.A (call (.builtin id) (v::us)) (EP X pins σ Q) X.xe s
theorem Vals.one:∀{x:V} {us:List Value},Vals [x] us->∃u,us=[u]/\RelV x u
 |_,_,.cons r .nil=>⟨_,rfl,r⟩
theorem Vals.rep{xs:List V}{us:List Value}(h:Vals xs us):∀k:Nat,Vals (List.replicate k xs).flatten (List.replicate k us).flatten
 | 0=>.nil
 |k+1=>by
  rw[List.replicate_succ,List.replicate_succ,List.flatten_cons,List.flatten_cons]
  exact Vals.append h (Vals.rep h k)
theorem foldl_rep(its:List Value):∀(k:Nat) (acc:List Value),
  List.foldl (λx1 x2=>x1++x2) acc.toArray (List.replicate k its.toArray)=(acc++(List.replicate k its).flatten).toArray
 | 0,acc=>by simp
 |k+1,acc=>by
  have e:acc.toArray++its.toArray=(acc++its).toArray:=by simp
  have e2:(acc++its)++(List.replicate k its).flatten=acc++(List.replicate (k+1) its).flatten:=by
   rw[List.replicate_succ,List.flatten_cons,List.append_assoc]
  rw[←e2,←foldl_rep its k (acc++its),←e,List.replicate_succ,List.foldl_cons]
section
variable{X:Cx}{pins:List (Addr×Obj)}{σ:St}{H:Hp}{s:Shared}{l b:Addr}{xs ys zs:List V}
theorem Inv.RT{its its':List Value}{n:Nat}{f:Array Value->Array Value}{t':Nat}(I:Inv X pins σ H s)(hH:H l=some (.lst xs))
  (e:s.heap.get? l=some { cls:=.type "list",data:=.seq its.toArray n }) (hf:f its.toArray=its'.toArray) (hv:Vals ys its') (hz:ys.length<=sizeLine) (ht:s.toks<=t':=by first|exact Nat.le_refl _|exact Nat.le_succ _|assumption|omega) :
  Inv X pins σ (upd H l (.lst ys)) { s with heap:=s.heap.update l (Obj.mapSeq f),toks:=t' }:=by
 have q:=PySem.IsL.update e f
 rw[hf]at q
 refine I.write (x:=l) (e:=l) (by rw[hH];exact trivial) (.inl rfl) (λb' u hb hu=>(Heap.get?_update_other s.heap (Obj.mapSeq f) (Ne.symm hb)).trans hu) ⟨_,q⟩ ?_
 exact⟨hz,its',_,hv,q⟩
theorem Inv.Po{its:List Value}{t':Nat}(I:Inv X pins σ H s)(hv:Vals ys its)(hz:ys.length<=sizeLine)(ht:s.toks<=t':=by first|exact Nat.le_refl _|exact Nat.le_succ _|assumption|omega):
  Inv X pins σ (upd H s.heap.objs.size (.lst ys)) { s with heap:=s.heap.push { cls:=.type "list",data:=.seq its.toArray },toks:=t' } :=
 I.laid (λ_ _ q=>Heap.get?_push_of_some _ q) (Nat.le_refl _) ⟨hz,its,0,hv,Heap.get?_push_size _ rfl⟩
theorem Inv.fresh(I:Inv X pins σ H s):H s.heap.objs.size=none:=I.hok.fresh (Nat.le_refl _)
theorem Inv.LI(I:Inv X pins σ H s)(hH:H l=some (.lst xs)):xs.length<=sizeLine/\∃(its:List Value) (n:Nat),Vals xs its/\xs.length=its.length/\s.heap.get? l=some { cls:=.type "list",data:=.seq its.toArray n }:=by
 obtain⟨z,its,n,r,e⟩:=I.hok l _ hH
 exact⟨z,its,n,r,r.length,e⟩
theorem CT{n:Nat}(h:n<=sizeLine):Builtin.List.listTooLong n=false:=by
 unfold Builtin.List.listTooLong
 exact decide_eq_false (by omega)
end
section
variable{X:Cx}
def Lr:V->List V->Hp->VK->Prop:=λx vs H Q=>∃l xs y,x= .ref l/\vs=[y]/\H l=some (.lst xs)/\xs.length<sizeLine/\Q .iz (upd H l (.lst (xs++[y])))
theorem fu:MtM X "list.append" Lr:=by
 intro pins s σ H x vs v us Q I rx rv h
 obtain⟨l,xs,y,rfl,rfl,hH,hz,q⟩:=h
 cases rx
 obtain⟨u,rfl,ru⟩:=rv.one
 obtain⟨z,its,n,r,hl,e⟩:=I.LI hH
 refine call_meets F.slot_list_append ⟨_,e,rfl⟩ F.entry_list_append (F.args_list_append_2 _ _) (PySem.list_append l its.toArray n u (by rw[List.size_toArray];omega)) ⟨e,?_⟩
 refine⟨.iz,_,I.RT (its':=its++[u]) hH e (by simp) (r.append (.cons ru .nil)) ?_,rfl,q⟩
 rw[List.length_append,List.length_singleton]
 omega
def Lq:V->List V->Hp->VK->Prop:=λx vs H Q=>∃l b xs zs,x= .ref l/\vs=[.ref b]/\H l=some (.lst xs)/\H b=some (.lst zs)/\xs.length+zs.length<=sizeLine/\Q .iz (upd H l (.lst (xs++zs)))
theorem uE:MtM X "list.extend" Lq:=by
 intro pins s σ H x vs v us Q I rx rv h
 obtain⟨l,b,xs,zs,rfl,rfl,hH,hB,hz,q⟩:=h
 cases rx
 obtain⟨u,rfl,ru⟩:=rv.one
 cases ru
 obtain⟨z,its,n,r,hl,e⟩:=I.LI hH
 obtain⟨z2,its2,n2,r2,hl2,e2⟩:=I.LI hB
 have hsz:its.toArray.size+its2.toArray.size<=sizeLine:=by rw[List.size_toArray,List.size_toArray];omega
 have JN:¬(!its.toArray.isEmpty&&Builtin.List.listTooLong (its.toArray.size+its2.toArray.size))=true:=by
  rw[CT hsz,Bool.and_false]
  exact Bool.false_ne_true
 refine call_meets F.slot_list_extend ⟨_,e,rfl⟩ F.entry_list_extend (F.args_list_extend_2 _ _)
  (AutoSeq1.list_extend_list_list_0 l its.toArray n b its2.toArray n2 JN (by rw[List.size_toArray];omega) (by omega)) ⟨e,e2,?_⟩
 refine⟨.iz,_,I.RT (its':=its++its2) hH e (by simp) (r.append r2) ?_,rfl,q⟩
 rw[List.length_append]
 omega
def WB:R2:=λx y H Q=>∃l k xs,x= .ref l/\y= .int k/\H l=some (.lst xs)/\ -(2 ^ 63)<=k/\k<2 ^ 63/\xs.length*k.toNat<=sizeLine ∧
 ∀p,H p=none->Q (.ref p) (upd H p (.lst (List.replicate k.toNat xs).flatten))
theorem len_rep{α:Type}(xs:List α)(k:Nat):(List.replicate k xs).flatten.length=k*xs.length:=by
 induction k with
 |zero=>simp
 |succ k ih=>rw[List.replicate_succ,List.flatten_cons,List.length_append,ih,Nat.succ_mul,Nat.add_comm]
theorem O7:uQ X (binaryOp .Mult) WB:=by
 intro pins s σ H x y v u Q I rx ry h
 obtain⟨l,k,xs,rfl,rfl,hH,h1,h2,hz,q⟩:=h
 cases rx
 obtain⟨t,rfl⟩:=ry
 obtain⟨z,its,n,r,hl,e⟩:=I.LI hH
 have hlen:its.toArray.size*k.toNat<=sizeLine:=by rw[List.size_toArray,←hl];exact hz
 have hcap:¬its.toArray.size*k.toNat>(2 ^ 63-1) / 8:=by
  have:(sizeLine:Nat)<=(2 ^ 63-1) / 8:=by decide
  omega
 have hfit:¬(!Builtin.List.listFitsIndex k)=true:=by
  rw[fitsIndex_both h1 h2]
  exact Bool.false_ne_true
 have JN:¬Builtin.List.listTooLong (its.toArray.size*k.toNat)=true:=by
  rw[CT hlen]
  exact Bool.false_ne_true
 have hnew:List.foldl (λx1 x2=>x1++x2) #[] (List.replicate (if its.toArray.isEmpty=true then 0 else k.toNat) its.toArray)=(List.replicate k.toNat its).flatten.toArray:=by
  have f0:∀m:Nat,List.foldl (λx1 x2=>x1++x2) #[] (List.replicate m its.toArray)=(List.replicate m its).flatten.toArray:=λm=>by
   have:=foldl_rep its m []
   rw[List.nil_append]at this
   exact this
  rw[f0]
  cases its with
  |nil=>simp
  |cons a r'=>rw[if_neg (by simp)]
 refine wpAny_binaryOp_repeat_ref (T:= "list") (U:= "int") (by decide) ⟨_,e,rfl⟩ (λs'=>typeIs_int s' k t) noFill_list_mul F.fills_int_mul F.slot_int_rmul repeat_list F.slot_int_index.lookup
  (call_meets F.slot_int_rmul (typeIs_int s k t) F.entry_int_rmul (F.args_int_rmul_2 _ _) (int___rmul___int_list k t l its.toArray n)
   ⟨e,rfl,⟨_,e,rfl⟩,call_meets F.slot_list_mul ⟨_,e,rfl⟩ F.entry_list_mul (F.args_list_mul_2 _ _) (AutoListH.list___mul___list_int_3 l its.toArray n k t hfit hcap JN) ⟨e,?_⟩⟩)
 rw[hnew]
 exact⟨.ref _,_,I.Po (t':=s.toks) (r.rep k.toNat) (by rw[len_rep,Nat.mul_comm];exact hz),rfl,q _ I.fresh⟩
end
section
variable{prog:Program}{w:World}{A:Around}{E:Value->Shared->Prop}{s:Shared}
end
section
variable{X:Cx}
end
end L2
namespace L2
open PySem PySem.Spec PyProof.Rows
section
variable{κ:Type}[DecidableEq κ]
def lU(kvs:List (κ×V))(k:κ):Option V:=(kvs.find? λkv=>decide (kv.1=k)).map (·.2)
def putK(kvs:List (κ×V))(k:κ)(v:V):List (κ×V) :=
 if(kvs.any λkv=>decide (kv.1=k))=true then kvs.map (λkv=>if kv.1=k then(kv.1,v)else kv)else kvs++[(k,v)]
theorem iA{p:κ×V}{r:List (κ×V)}{k:κ}(e:p.1=k):lU (p::r) k=some p.2:=by simp[lU,List.find?_cons,e]
theorem iB{p:κ×V}{r:List (κ×V)}{k:κ}(e:¬p.1=k):lU (p::r) k=lU r k:=by simp[lU,List.find?_cons,e]
theorem sH(k:κ):∀kvs:List (κ×V),(kvs.any λkv=>decide (kv.1=k))=(lU kvs k).isSome
 |[]=>rfl
 |p::r=>by
  rw[List.any_cons]
  by_cases e:p.1=k
  ·simp only[iA e,decide_eq_true e,Bool.true_or,Option.isSome_some]
  ·rw[iB e,decide_eq_false e,Bool.false_or];exact sH k r
theorem BY(k j:κ)(y:V):∀kvs:List (κ×V),lU (kvs.map λkv=>if kv.1=k then(kv.1,y)else kv) j=(lU kvs j).map λx=>if j=k then y else x
 |[]=>rfl
 |p::r=>by
  have ih:=BY k j y r
  rw[List.map_cons]
  by_cases h:p.1=k
  ·rw[if_pos h]
   by_cases e:p.1=j
   ·rw[iA (p:=(p.1,y)) e,iA e,Option.map_some,if_pos (e.symm.trans h)]
   ·rw[iB (p:=(p.1,y)) e,iB e,ih]
  ·rw[if_neg h]
   by_cases e:p.1=j
   ·rw[iA (p:=p) e,iA e,Option.map_some,if_neg (λz=>h (e.trans z))]
   ·rw[iB (p:=p) e,iB e,ih]
theorem zp(k j:κ)(y:V):∀kvs:List (κ×V),lU kvs k=none->lU (kvs++[(k,y)]) j=if j=k then some y else lU kvs j
 |[],_=>by
  by_cases e:k=j
  ·rw[if_pos e.symm];exact iA (p:=(k,y)) e
  ·rw[if_neg (λz=>e z.symm)];exact iB (p:=(k,y)) e
 |p::r,hn=>by
  rw[List.cons_append]
  have hk:¬p.1=k:=λz=>by rw[iA z]at hn;cases hn
  rw[iB hk]at hn
  have ih:=zp k j y r hn
  by_cases e:p.1=j
  ·rw[iA e,iA e,if_neg (λz=>hk (e.trans z))]
  ·rw[iB e,iB e,ih]
theorem BX(kvs:List (κ×V))(k j:κ)(y:V):lU (putK kvs k y) j=if j=k then some y else lU kvs j:=by
 unfold putK
 by_cases a:(kvs.any λkv=>decide (kv.1=k))=true
 ·rw[if_pos a,BY]
  rw[sH]at a
  by_cases e:j=k
  ·obtain⟨x,hx⟩:=Option.isSome_iff_exists.mp a
   rw[if_pos e,e,hx,Option.map_some,if_pos rfl]
  ·rw[if_neg e]
   cases lU kvs j with
   |none=>rfl
   |some x=>rw[Option.map_some,if_neg e]
 ·rw[if_neg a]
  refine zp k j y kvs ?_
  rw[sH]at a
  cases q:lU kvs k with
  |none=>rfl
  |some x=>rw[q]at a;exact(a rfl).elim
theorem nO(kvs:List (κ×V))(k:κ)(v:V):(putK kvs k v).length<=kvs.length+1:=by
 unfold putK
 split
 ·rw[List.length_map];omega
 ·rw[List.length_append,List.length_cons,List.length_nil];omega
theorem nh.zM{o:Option V}{u:Option Value}(r:nh o u):o.isSome=u.isSome:=by
 cases o with
 |none=>cases u with
  |none=>rfl
  |some _=>exact(show False from r).elim
 |some _=>cases u with
  |none=>exact(show False from r).elim
  |some _=>rfl
theorem KV.val{kvs:List (κ×V)}{vs:List (κ×Value)}(r:KV kvs vs)(k:κ):nh (lU kvs k) (valueAt vs k):=by
 unfold KV at r
 induction r with
 |nil=>exact True.intro
 | @cons p q ps qs h t ih =>
  obtain⟨h1,h2⟩:=h
  by_cases e:p.1=k
  ·have e':q.1=k:=h1.symm.trans e
   have b:valueAt (q::qs) k=some q.2:=by simp[valueAt,List.find?_cons,e']
   rw[iA e,b];exact h2
  ·have e':¬q.1=k:=λz=>e (h1.trans z)
   have b:valueAt (q::qs) k=valueAt qs k:=by simp[valueAt,List.find?_cons,e']
   rw[iB e,b];exact ih
theorem KV.any{kvs:List (κ×V)}{vs:List (κ×Value)}(r:KV kvs vs)(k:κ):(kvs.any λkv=>decide (kv.1=k))=vs.any λkv=>decide (kv.1=k):=by
 unfold KV at r
 induction r with
 |nil=>rfl
 |cons h t ih=>rw[List.any_cons,List.any_cons,ih,h.1]
theorem KV.repl{kvs:List (κ×V)}{vs:List (κ×Value)}(r:KV kvs vs)(k:κ){y:V}{u:Value}(ry:RelV y u):
  KV (kvs.map λkv=>if kv.1=k then(kv.1,y)else kv) (vs.map λkv=>if kv.1=k then(kv.1,u)else kv):=by
 unfold KV at r ⊢
 induction r with
 |nil=>exact .nil
 | @cons p q ps qs h t ih =>
  rw[List.map_cons,List.map_cons]
  refine .cons ?_ ih
  obtain⟨h1,h2⟩:=h
  by_cases e:p.1=k
  ·rw[if_pos e,if_pos (h1.symm.trans e)];exact⟨h1,ry⟩
  ·rw[if_neg e,if_neg (λz=>e (h1.trans z))];exact⟨h1,h2⟩
theorem KV.put{kvs:List (κ×V)}{vs:List (κ×Value)}(r:KV kvs vs)(k:κ){y:V}{u:Value}(ry:RelV y u):KV (putK kvs k y) (stored vs k u):=by
 unfold putK stored
 rw[r.any k]
 by_cases e:(vs.any λkv=>decide (kv.1=k))=true
 ·rw[if_pos e,if_pos e];exact r.repl k ry
 ·rw[if_neg e,if_neg e];exact Paired.snoc r ⟨rfl,ry⟩
theorem KV.length{kvs:List (κ×V)}{vs:List (κ×Value)}(r:KV kvs vs):kvs.length=vs.length:=Paired.length r
end
theorem JF{P:Program}{w:World}{k:Key}{u:Value}(r:RelV (kV k) u):(bV P w).is k u=true:=by
 cases k with
 |inl i=>obtain⟨t,e⟩:=(show ∃t,u=Value.int i t from r);subst e;exact CV P w i t
 |inr x=>obtain⟨t,e⟩:=(show ∃t,u=Value.str x t from r);subst e;exact qc P w x t
theorem zL{P:Program}{w:World}:∀{ks:List Key} {us:List Value},Vals (ks.map kV) us->ItemsAre (bV P w) ks us
 |[],_,r=>by rw[List.map_nil]at r;cases r;exact .nil
 |k::ks,_,r=>by
  rw[List.map_cons]at r
  cases r with
  |cons h t=>exact .cons (JF h) (zL t)
abbrev KT(H:Hp):List (List Key×V)->List (List Key×Addr×Value)->Prop:=Paired λp q=>p.1=q.1/\H q.2.1=some (.tup (p.1.map kV))/\RelV p.2 q.2.2
theorem KT.val{H:Hp}{kvs:List (List Key×V)}{xs:List (List Key×Addr×Value)}(r:KT H kvs xs)(k:List Key):nh (lU kvs k) ((atKey xs k).map (·.2)):=by
 induction r with
 |nil=>exact True.intro
 | @cons p q ps qs h t ih =>
  obtain⟨h1,_,h2⟩:=h
  by_cases e:p.1=k
  ·have e':q.1=k:=h1.symm.trans e
   have b:atKey (q::qs) k=some q.2:=by simp[atKey,List.find?_cons,e']
   rw[iA e,b];exact h2
  ·have e':¬q.1=k:=λz=>e (h1.trans z)
   have b:atKey (q::qs) k=atKey qs k:=by simp[atKey,List.find?_cons,e']
   rw[iB e,b];exact ih
theorem KT.repl{H:Hp}{kvs:List (List Key×V)}{xs:List (List Key×Addr×Value)}(r:KT H kvs xs)(k:List Key){y:V}{u:Value}(ry:RelV y u):
  KT H (kvs.map λkv=>if kv.1=k then(kv.1,y)else kv) (xs.map (putAt k u)):=by
 induction r with
 |nil=>exact .nil
 | @cons p q ps qs h t ih =>
  rw[List.map_cons,List.map_cons]
  refine .cons ?_ ih
  obtain⟨h1,h2,h3⟩:=h
  unfold putAt
  by_cases e:p.1=k
  ·rw[if_pos e,if_pos (h1.symm.trans e)];exact⟨h1,h2,ry⟩
  ·rw[if_neg e,if_neg (λz=>e (h1.trans z))];exact⟨h1,h2,h3⟩
theorem KT.put{H:Hp}{kvs:List (List Key×V)}{xs:List (List Key×Addr×Value)}(r:KT H kvs xs)(k:List Key){b:Addr}{y:V}{u:Value}(hb:H b=some (.tup (k.map kV)))(ry:RelV y u):
  KT H (putK kvs k y) (storedH xs k b u):=by
 have e:(kvs.any λkv=>decide (kv.1=k))=(atKey xs k).isSome:=by
  rw[sH,(r.val k).zM,Option.isSome_map]
 unfold putK storedH
 rw[e]
 by_cases q:(atKey xs k).isSome=true
 ·rw[if_pos q,if_pos q];exact r.repl k ry
 ·rw[if_neg q,if_neg q];exact Paired.snoc r ⟨rfl,hb,ry⟩
theorem KT.keeps{H H':Hp}{kvs:List (List Key×V)}{xs:List (List Key×Addr×Value)}(r:KT H kvs xs)(ht:∀b ys,H b=some (.tup ys)->H' b=some (.tup ys)):KT H' kvs xs :=
 Paired.dP r λ_ _ z=>⟨z.1,ht _ _ z.2.1,z.2.2⟩
section
variable{P:Program}{w:World}{H:Hp}{h:Heap}{a:Addr}
theorem MM{u:HO}(ok:mO P w H h)(e:Rd H a u):bQ P w H h a u:=e.ok ok
theorem Kg{kvs:List (Key×V)}(ok:mO P w H h)(e:Rd H a (.dK kvs)):kvs.length<=sizeLine/\(a==sysModules)=false/\∃vs,KV kvs vs/\h.DictOf (bV P w) a vs :=
 show bQ P w H h a (.dK kvs) from MM ok e
theorem Ti{kvs:List (Key×V)}(ok:mO P w H h)(e:H a=some (.dK kvs)):kvs.length<=sizeLine/\(a==sysModules)=false/\∃vs,KV kvs vs/\h.DictOf (bV P w) a vs:=Kg ok (.inl e)
theorem xN{ks:List Key}(ok:mO P w H h)(e:H a=some (.tup (ks.map kV))):(tupleKind (bV P w)).is h ks a:=by
 obtain⟨_,its,r,o,h1,h2,n,h3⟩:=(show bQ P w H h a (.tup (ks.map kV)) from ok a _ e)
 exact⟨o,its.toArray,n,h1,h2,h3,by simpa using zL r⟩
theorem Ke{kvs:List (List Key×V)}(ok:mO P w H h)(e:Rd H a (.dT kvs)):kvs.length<=sizeLine/\(a==sysModules)=false ∧
  ∃xs,KT H kvs xs/\h.DictOfH (tupleKind (bV P w)) a xs:=by
 obtain⟨z,y,xs,r,o,es,ep,h1,h2,h3,h4,h5⟩:=(show bQ P w H h a (.dT kvs) from MM ok e)
 refine⟨z,y,xs,r,o,es,ep,h1,h2,h3,h4,λx hx=>?_,h5⟩
 have all:∀{l:List (List Key×V)} {m:List (List Key×Addr×Value)},KT H l m->∀x∈m,(tupleKind (bV P w)).is h x.1 x.2.1:=by
  intro l m q
  induction q with
  |nil=>intro x hx;exact nomatch hx
  | @cons p q ps qs hq t ih =>
   intro x hx
   rcases List.mem_cons.mp hx with e|hx
   ·subst e
    exact xN ok (by rw[←hq.1];exact hq.2.1)
   ·exact ih x hx
 exact all r x hx
theorem Th{kvs:List (List Key×V)}(ok:mO P w H h)(e:H a=some (.dT kvs)):kvs.length<=sizeLine/\(a==sysModules)=false ∧
  ∃xs,KT H kvs xs/\h.DictOfH (tupleKind (bV P w)) a xs:=Ke ok (.inl e)
end
def DV(H:Hp)(a:Addr)(y:V)(r:Option V):Prop :=
 (∃kvs k,Rd H a (.dK kvs)/\y=kV k/\r=lU kvs k)\/∃kvs k b,Rd H a (.dT kvs)/\y= .ref b/\H b=some (.tup (k.map kV))/\r=lU kvs k
def HQ(H:Hp)(a:Addr)(y v:V)(H':Hp):Prop :=
 (∃kvs k,H a=some (.dK kvs)/\y=kV k/\kvs.length<sizeLine/\H'=upd H a (.dK (putK kvs k v))) ∨
 ∃kvs k b,H a=some (.dT kvs)/\y= .ref b/\H b=some (.tup (k.map kV))/\kvs.length<sizeLine/\H'=upd H a (.dT (putK kvs k v))
theorem DV.t{H:Hp}{a b:Addr}{kvs:List (List Key×V)}{k:List Key}(e:H a=some (.dT kvs))(eb:H b=some (.tup (k.map kV))):DV H a (.ref b) (lU kvs k):=.inr ⟨kvs,k,b,.inl e,rfl,eb,rfl⟩
theorem HQ.t{H:Hp}{a b:Addr}{kvs:List (List Key×V)}{k:List Key}{v:V}(e:H a=some (.dT kvs))(eb:H b=some (.tup (k.map kV)))(hl:kvs.length<sizeLine):
  HQ H a (.ref b) v (upd H a (.dT (putK kvs k v))):=.inr ⟨kvs,k,b,e,rfl,eb,hl,rfl⟩
section
variable{X:Cx}{pins:List (Addr×Obj)}{σ:St}{H:Hp}{s:Shared}{a:Addr}{y v:V}{u r:Value}{o:Option V}{A:Around}{E:Value->Shared->Prop}
theorem Inv.big(I:Inv X pins σ H s):sysModules<s.heap.objs.size:=by
 have h:mainGlobals<s.heap.objs.size:=(I.mod.glob.keeps I.bk).lt
 exact Nat.lt_trans (by decide) h
theorem Hx{Q:Value->Shared->Prop}(hu:A.units+1<cLine)(I:Inv X pins σ H s)(g:DV H a y (some v))(ry:RelV y u)(h:∀w' s',Inv X pins σ H s'->RelV v w'->Q w' s'):
  wpAny (model X.prog X.w) A (getItem (.ref a) u) Q E s:=by
 rcases g with⟨kvs,k,e,ey,l⟩|⟨kvs,k,b,e,ey,eb,l⟩
 ·subst ey
  obtain⟨z,hd,vs,rel,dd⟩:=Kg I.hok e
  obtain⟨w',hw,rw'⟩:=nh.some_of (v:=v) (o:=valueAt vs k) (by rw[l];exact rel.val k)
  exact wpAny_getItem_of (JF ry) dd.mapOf hw (h w' _ (I.tok _) rw')
 ·subst ey
  cases (show u=Value.ref b from ry)
  obtain⟨z,hd,xs,rel,dd⟩:=Ke I.hok e
  obtain⟨w',hw,rw'⟩:=nh.some_of (v:=v) (o:=(atKey xs k).map (·.2)) (by rw[l];exact rel.val k)
  obtain⟨p,hp,hp2⟩:=Option.map_eq_some_iff.mp hw
  refine wpAny_getItem_heap (tupleKind_room_in1 hu) (xN I.hok eb) dd hp ?_
  rw[hp2]
  exact h w' _ (I.tok _) rw'
theorem Bd{h':Heap}{t':Nat}{ob:HO}(I:Inv X pins σ H s)(mu:TN (H a))(hs:Heap.SameBut a s.heap h')(he:∃q,h'.get? a=some q)(new:bQ X.prog X.w (upd H a ob) h' a ob)(ht:s.toks<=t':=by first|exact Nat.le_refl _|exact Nat.le_succ _|assumption|omega):
  Inv X pins σ (upd H a ob) { s with heap:=h',toks:=t' } :=
 I.write (x:=a) (e:=a) mu (.inl rfl) (λb q hb z=>(hs.2 b hb).trans z) he new
theorem Qn{P:Program}{w:World}{H':Hp}{h':Heap}{kvs:List (Key×V)}{vs:List (Key×Value)}(z:kvs.length<=sizeLine)(hd:(a==sysModules)=false)(rel:KV kvs vs)(dd:h'.DictOf (bV P w) a vs):
  bQ P w H' h' a (.dK kvs):=⟨z,hd,vs,rel,dd⟩
theorem Hw{H':Hp}{Q:Unit->Shared->Prop}(hu:A.units+1<cLine)(I:Inv X pins σ H s)(g:HQ H a y v H')(ry:RelV y u)(rv:RelV v r)(h:∀s',Inv X pins σ H' s'->Q () s'):
  wpAny (model X.prog X.w) A (setItem (.ref a) u r) Q E s:=by
 rcases g with⟨kvs,k,e,ey,l,eH⟩|⟨kvs,k,b,e,ey,eb,l,eH⟩
 ·subst ey eH
  obtain⟨z,hd,vs,rel,dd⟩:=Ti I.hok e
  have hz:vs.length<=sizeLine:=by rw[←rel.length];exact z
  have hl:(putK kvs k v).length<=sizeLine:=by have:=nO kvs k v;omega
  refine wpAny_setItem_pairs (hsz:=hz) (JF ry) dd λh' QZ hs=>h _ ?_
  have he:∃q,h'.get? a=some q:=let ⟨q,_,_,hq,_⟩:=QZ;⟨q,hq⟩
  exact Bd I (by rw[e];exact True.intro) hs he (Qn hl hd (rel.put k rv) QZ)
 ·subst ey eH
  cases (show u=Value.ref b from ry)
  obtain⟨z,hd,xs,rel,dd⟩:=Th I.hok e
  have hz:xs.length<=sizeLine:=by rw[←Paired.length rel];exact z
  have hl:(putK kvs k v).length<=sizeLine:=by have:=nO kvs k v;omega
  refine wpAny_setItem_heap (hsz:=hz) (tupleKind_room_in1 hu) (xN I.hok eb) dd λh' QZ hs=>h _ ?_
  obtain⟨q,es,ep,hq,h2,h3,h4,_,h5⟩:=QZ
  refine Bd I (by rw[e];exact True.intro) hs ⟨q,hq⟩ ⟨hl,hd,_,(rel.put k eb rv).keeps λc ys ec=>?_,q,es,ep,hq,h2,h3,h4,h5⟩
  rw[ao (pZ ec e (λz=>nomatch z))]
  exact ec
end
section
variable{X:Cx}{pins:List (Addr×Obj)}{σ:St}{H:Hp}{s:Shared}{a:Addr}{kvs:List (Key×V)}{k:Key}{u:Value}{A:Around}{E:Value->Shared->Prop}
end
def QB(i:Expr):Prop:=∀ov iv,subscripted i false ov iv=operate [ov,iv] (getItem ov iv)
theorem wg{prog:Program}{w:World}{A:Around}{E:Value->Shared->Prop}{s:Shared}{env:Env}{value slice:Expr}{pos:Pos}{T id:String}{Q:Value->Shared->Prop}
  (hl:typeLookup (.type T) "__getitem__" =pure (some (.builtin id))) (hs:QB slice)
  (h:wpAny (model prog w) A (eval value env) (λo s₁=>wpAny (model prog w) A (eval slice env) (λi s₂=>s₂.TypeIs o T/\wpAny (model prog w) A (getItem o i) Q E s₂) E s₁) E s) :
  wpAny (model prog w) A (eval (.Subscript value slice pos) env) Q E s:=by
 refine Subscript_ (wpAny_mono h (λo s₁ h₁=>wpAny_mono h₁ (λi s₂ h₂=>?_) λ_ _ x=>x) λ_ _ x=>x)
 obtain⟨hT,h₂⟩:=h₂
 unfold subscriptTail
 refine wpAny_bind ?_
 rw[getitemInPython_of_ne hT.not_modules]
 refine wpAny_bind (wpAny_specialOf hT hl ?_)
 have fin:wpAny (model prog w) A (subscripted slice false o i) (λr s₃=>wpAny (model prog w) A (letTemporaryGo value o r >>= λ_=>pure r) Q E s₃) E s₂:=by
  rw[hs o i]
  exact wpAny_operating (wpAny_mono h₂ (λr s₃ h₃=>wpAny_bind (wpAny_letTemporaryGo (wpAny_pure h₃))) λ_ _ x=>x)
 first
  |exact wpAny_pure (wpAny_bind fin)
  |exact wpAny_bind (wpAny_pure (wpAny_bind fin))
  |exact wpAny_bind fin
theorem Dq{X:Cx}{pins:List (Addr×Obj)}{σ:St}{H:Hp}{s:Shared}{a:Addr}{y:V}{o:Option V}(I:Inv X pins σ H s)(g:DV H a y o):s.TypeIs (.ref a) "dict" :=by
 rcases g with⟨kvs,k,e,_,_⟩|⟨kvs,k,b,e,_,_,_⟩
 ·obtain⟨_,_,vs,_,dd⟩:=Kg I.hok e
  exact dd.typeIs
 ·obtain⟨_,_,xs,_,dd⟩:=Ke I.hok e
  exact dd.typeIs
def Rn(td ty:TE):TE:=λσ H Q=>td σ H λx H1=>ty σ H1 λy H2=>∃a v,x= .ref a/\DV H2 a y (some v)/\Q v H2
def RB(td ty tv:TE):TS:=λD σ H=>tv σ H λv H1=>td σ H1 λx H2=>ty σ H2 λy H3=>∃a H4,x= .ref a/\HQ H3 a y v H4/\D.nx σ H4
section
variable{X:Cx}{o i e value:Expr}{pos pos' tpos:Pos}{td ty tv:TE}
theorem AF(hu:X.A.units+1<cLine)(ho:PE X o td)(hi:PE X i ty)(hs:QB i):PE X (.Subscript o i pos) (Rn td ty):=by
 intro pins s σ H Q I h
 refine wg PySem.F.slot_dict_getitem.lookup hs (fh (ho pins s σ H _ I h) λu s1 ⟨x,H1,I1,rx,q1⟩=>fh (hi pins s1 σ H1 _ I1 q1) λiv s2 ⟨y,H2,I2,ry,a,v,ex,g,q2⟩=>?_)
 subst ex
 obtain rfl:u=Value.ref a:=rx
 exact⟨Dq I2 g,Hx hu I2 g ry λw' s3 I3 rw'=>⟨v,H2,I3,rw',q2⟩⟩
theorem FT(hu:X.A.units+1<cLine)(ho:PE X o td)(hi:PE X i ty)(hv:PE X value tv)(hs:swapsWith value (some (.Subscript o i pos')) pos.line X.env=pure false):
  PS X (.Assign [.Subscript o i pos'] value pos) (RB td ty tv):=by
 intro pins s σ H D I h
 refine wpAny_Assign_Subscript (fh (hv pins s σ H _ I h) λr s1 ⟨v,H1,I1,rv,q1⟩=>fh (ho pins s1 σ H1 _ I1 q1) λu s2 ⟨x,H2,I2,rx,q2⟩=>fh (hi pins s2 σ H2 _ I2 q2) λiv s3 ⟨y,H3,I3,ry,a,H4,ex,g,q3⟩=>?_) hs
 subst ex
 obtain rfl:u=Value.ref a:=rx
 exact Hw hu I3 g ry rv λs4 I4=>⟨σ,H4,I4,q3⟩
end
theorem Kf{P:Program}{w:World}{H:Hp}(h:Heap)(hb:sysModules<h.objs.size):bQ P w H (h.push { cls:=.type "dict",data:=.dict #[] }) h.objs.size (.dT []) :=
 ⟨Nat.zero_le _,beq_eq_false_iff_ne.mpr (Ne.symm (Nat.ne_of_lt hb)),[],.nil,_,#[],0,Heap.get?_push_size _ rfl,⟨rfl,rfl,rfl⟩,rfl,rfl,List.nodup_nil⟩
def OQ:TE:=λ_ H Q=>∀p,H p=none->Q (.ref p) (upd H p (.dT []))
section
variable{X:Cx}{pos:Pos}
theorem CC:PE X (.Dict [] [] pos) OQ:=λpins s σ H Q I h =>
 wpAny_Dict_empty ⟨.ref s.heap.objs.size,_,I.laid (a:=s.heap.objs.size) (o:=.dT []) (t':=s.toks) (λ_ _ q=>Heap.get?_push_of_some _ q) (Nat.le_refl _) (Kf s.heap I.big),rfl,h _ (I.hok.fresh (Nat.le_refl _))⟩
end
section
variable{X:Cx}{pins:List (Addr×Obj)}{σ:St}{H:Hp}{s:Shared}{a:Addr}{y d:V}{u r:Value}{o:Option V}{A:Around}{E:Value->Shared->Prop}
end
section
variable{X:Cx}{o e f:Expr}{apos cpos:Pos}{td ty tx:TE}
end
section
variable{X:Cx}{pins:List (Addr×Obj)}{σ:St}{H:Hp}{s:Shared}{a:Addr}{kvs:List (Key×V)}{A:Around}{E:Value->Shared->Prop}
end
section
variable{X:Cx}{pins:List (Addr×Obj)}{σ:St}{H:Hp}{s:Shared}{a:Addr}{y:V}{u:Value}{A:Around}{E:Value->Shared->Prop}
end
end L2
namespace Att
open PySem PySem.W PySem.Calls PyProof.Rows
theorem vN{P:Params}{h:Heap}:∀(ns:List Int) (vs:List Value),WellAll P h vs (ns.map WData.int)->IntsAre vs ns:=by
 intro ns
 induction ns with
 |nil =>
  intro vs w
  rw[List.map_nil]at w
  cases w
  exact .nil
 |cons n ns ih =>
  intro vs w
  rw[List.map_cons]at w
  cases w with
  |cons a b =>
   cases a
   exact .cons _ _ (ih _ b)
theorem GL{l:OpenLaw}{n:Nat}(hn:l.most=some n){P:Params}{h:Heap}{args:List WData}{vals:List Value}
  (hpre:l.row.toRowW.claim.pre args=true) (hwl:WellAll P h vals args) :
  ∃a vs ns,vals=[Value.ref a]/\args=[WData.list (ns.map WData.int)]/\h.get? a=some { cls:=.type "list",data:=.seq vs.toArray }/\IntsAre vs ns/\ns.length<=n:=by
 have hsh:WShape.hasAll [] args [.list .int]=true:=(pre_splitW hpre).1
 have hc:l.pre.holds [] { args:=args }=true:=(pre_splitW hpre).2
 obtain⟨d,r,rfl,h1,h2⟩:=hasAllW_cons hsh
 obtain rfl:=hasAllW_nil h2
 obtain⟨xs,rfl,h3⟩:=hasW_list h1
 obtain⟨ns,rfl⟩:=items_int h3
 have hlen:ns.length<=n:=by
  unfold OpenLaw.pre at hc
  have h4:(WTm.not (.lt (.lit (.int (n:Int))) (.len (.arg 0)))).holds [] { args:=[.list (ns.map .int)] }=true:=by
   have h4:=(holds_andW hc).1
   rw[hn]at h4
   exact h4
  have h5:=condW_of h4 (w_not (w_lt w_lit (w_len_list (w_arg rfl))))
  rw[List.length_map]at h5
  refine Nat.le_of_not_lt λq=>?_
  have q':(n:Int)<((ns.length:Nat):Int):=by omega
  first
   |(rw[decide_eq_true q']at h5;exact absurd h5 (by decide))
   |(simp at h5;omega)
 cases hwl with
 |cons w1 w2 =>
  cases w2
  cases w1 with
  |list ho hall=>exact⟨_,_,ns,rfl,rfl,ho,vN ns _ hall,hlen⟩
theorem GU(l:OpenLaw)(args:List WData):l.row.toRowW.claim.post args (.bool true) args=true :=
 postW_of (r:=l.row.toRowW) (X:=(true==true))
  (show WShape.has [] (.bool true) .bool=true by first|rfl|decide|simp[WShape.has,WShape.arms,WShape.armsAll])
  (show(WTm.eq .res (.lit (.bool true))).value [] { args:=args,res:=some (.bool true),after:=args }=some (.bool (true==true)) from w_eq_bool (w_res rfl) w_lit) rfl
theorem Dz{l:OpenLaw}{n:Nat}{q:Program}{loose:List Str}{XP:(Str->Option Value)->Heap->Prop}{YP:World->Heap->Prop}{d:DefRec}
  (hn:l.most=some n) (hdf:d.params.defaults=[])
  (call:∀(w:World) (s₀ s₁:Shared) (mg mb:Str->Option Value) (fa:Addr) (o:Obj) (pm cd doc:Value) (a:Addr) (vs:List Value) (ns:List Int),
   Ground q loose [] XP w s₀ mg mb s₁.heap->YP w s₁.heap →
   s₁.heap.get? fa=some o->o.data= .func (docDef d.name d.params d.body d.scope pm cd doc)->s₁.heap.CodeRec cd d.name->mg d.name=some (.ref fa) →
   s₁.heap.get? a=some { cls:=.type "list",data:=.seq vs.toArray }->IntsAre vs ns->ns.length<=n->s₁.gens= #[] →
   codeAny (model l.prog w) callerA (.call (.ref fa) ⟨[.ref a],[]⟩) (λr s'=>r= .ok (.ret (.bool true))/\OldK s₁.heap s'.heap/\s'.os=s₁.os/\AllBare s'.gens) s₁) :
  WalkO q loose XP YP l.row.toRowW d [] (λf vs=>PySem.call f vs):=by
 intro w s₀ s₁ mg mb G Y fa o pm cd doc dV kV ho hd hcd hD hmg hg args vals as hpre hlay hrd hwl hlo
 obtain rfl:dV= .none:=Dflts.none hD hdf
 obtain rfl:kV= .none:=Dflts.noKw hD
 obtain⟨a,vs,ns,rfl,rfl,hobj,hints,hlen⟩:=GL hn hpre hwl
 refine enter_call (codeAny_mono (call w s₀ s₁ mg mb fa o pm cd doc a vs ns G Y ho (fd_plain hd) hcd hmg hobj hints hlen hg) λr s' hq=>?_)
 obtain⟨rfl,h2,h3,h4⟩:=hq
 exact⟨.inl ⟨.bool true,.bool true,[],rfl,λ_=>rfl,.bool true,GU l _,λ_=>⟨List.Pairwise.nil,λ_ hm=>(nomatch hm)⟩⟩,h2,h3,h4⟩
section
variable{prog:Program}{w:World}{A:Around}{E:Value->Shared->Prop}{s:Shared}{K:Frag}
end
end Att
namespace L2
open PySem PySem.Spec PyProof.Rows
theorem zo:∀{vs:List Value} {ns:List Int},IntsAre vs ns->Vals (ns.map V.int) vs
 |_,_,.nil=>.nil
 |_,_,.cons n t h=>.cons ⟨t,rfl⟩ (zo h)
end L2
namespace L2
open PySem PySem.Spec PyProof.Rows
end L2
namespace L2
open PySem PySem.Spec PyProof.Rows
def inClass(s:Stmt)(j:Nat):Stmt:=match s with
 | .ClassDef _ _ _ body _ _ _ _ _ _ _=>body.getD j (.Pass ⟨0,0,0,0⟩)
 |_=>.Pass ⟨0,0,0,0⟩
def gg(s:Stmt):Arguments:=match s with
 | .FunctionDef _ a _ _ _ _ _ _ _ _=>a
 |_=>{ posonlyargs:=[],args:=[],vararg:=none,kwonlyargs:=[],kw_defaults:=[],kwarg:=none,defaults:=[] }
def d8(s:Stmt):List Stmt:=match s with
 | .FunctionDef _ _ b _ _ _ _ _ _ _=>b
 |_=>[]
def ay(s:Stmt):Scope:=match s with
 | .FunctionDef _ _ _ _ _ _ sc _ _ _=>sc
 |_=>{ kind:=.function,names:=[],isGenerator:=false,isCoroutine:=false }
abbrev b8:HR:=λ_ _ _ _ _ _=>False
abbrev E0:XK:=λ_ _ _=>False
theorem aN{X:Cx}:Passes b8 X E0:=λ_ _ _ _ _ _ _ h=>h.elim
structure K3(K:PySem.W.Frag)(x qual:Str)(st:Stmt)(f:Addr)(fd:FuncData):Prop where
 ex:∃(oc:Value) (od:Option Addr) (dV kV doc pm:Value) (an:Option Addr) (cdv ct:Value) (osl:Array (Option Value)),
  fd=PySem.W.fnOf x qual (gg st) (d8 st) (ay st) dV kV doc pm an cdv ct/\K.lookup f=some ⟨oc,od,.func fd,osl⟩/\PySem.W.codeIn K cdv qual=true
 kp:PySem.W.keepIn K (.ref f)=true
section
variable{P:Program}{w:World}{K:PySem.W.Frag}{mg:Str->Option Value}{base:Heap}
theorem K3.ok{x qual:Str}{st:Stmt}{f:Addr}{fd:FuncData}{N ps:List Str}{k:Nat}{sp:Sp}(F:K3 K x qual st f fd)(S:aH N ps (ay st))(len:∀vs H Q E,sp vs H Q E->vs.length=ps.length)
  (hbody:∀(cdv:Value) (A:Around) (outer:List Env) (s:Shared) (H:Hp) (vs:List V) (Q:VK) (E:XK),jO k (A.deeper (envOfC qual (ay st) s.heap.objs.size f cdv))->sp vs H Q E →
   ∃t,Aa (tL b8 P w K mg base N qual (ay st) f cdv A outer s H E).Pe (d8 st) t/\t { nx:=λ_ H'=>Q .iz H',rt:=Q } (start N vs) H):aI P w K mg base b8 (k+1) f fd ps sp:=by
 obtain⟨oc,od,dV,kV,doc,pm,an,cdv,ct,osl,rfl,lk,hcd⟩:=F.ex
 refine JY lk hcd S len λA outer s H vs Q E hr DY=>?_
 obtain⟨t,h,q⟩:=hbody cdv A outer s H vs Q E hr DY
 exact⟨t,h.Pe,q⟩
theorem uK{x qual:Str}{st:Stmt}{f:Addr}{oc:Value}{od an:Option Addr}{osl:Array (Option Value)}{dV kV doc pm cdv ct:Value}(l:K.lookup f=some ⟨oc,od,.func (PySem.W.fnOf x qual (gg st) (d8 st) (ay st) dV kV doc pm an cdv ct),osl⟩)
  (c:PySem.W.codeIn K cdv qual=true) (k:PySem.W.keepIn K (.ref f)=true):K3 K x qual st f (PySem.W.fnOf x qual (gg st) (d8 st) (ay st) dV kV doc pm an cdv ct):=⟨⟨oc,od,dV,kV,doc,pm,an,cdv,ct,osl,rfl,l,c⟩,k⟩
end
theorem Dd{A:Around}{k:Nat}(hr:jO k A):A.units+1<cLine:=Nat.lt_of_le_of_lt (Nat.add_le_add_left (by decide:1<=64) _) hr.units
section
variable{X:Cx}
theorem pv (i:Nat) {x:Str} {pos:Pos} (hN:X.N[i]? =some x:=by rfl) (hv:UL X.env.scope x:=by first|exact Or.inl rfl|exact Or.inr (Or.inl rfl)|exact Or.inr (Or.inr rfl)) (hd:(x==("__debug__" :Str))=false:=by decide)
  (hcd:(x==("__classdict__" :Str))=false:=by decide):PE X (.Name x pos) (Ra i):=O6 hN hv hd hcd
end
theorem jr{A B:Prop}(h:B):if false=true then A else B:=by
 rw[if_neg Bool.false_ne_true]
 exact h
theorem ng{A B:Prop}(h:A):if true=true then A else B:=by
 rw[if_pos rfl]
 exact h
def ai(H H':Hp):Prop:=∀b o,H b=some o->H' b=some o
theorem ai.refl(H:Hp):ai H H:=λ_ _ h=>h
theorem ai.trans{H H1 H2:Hp}(a:ai H H1)(b:ai H1 H2):ai H H2:=λc o h=>b c o (a c o h)
theorem ai.free{H H':Hp}(e:ai H H'){l:Addr}(h:H' l=Option.none):H l=Option.none:=by
 cases q:H l with
 |none=>rfl
 |some o =>
  rw[e l o q]at h
  cases h
theorem ai.seq{K:PySem.W.Frag}{H H':Hp}{a:Addr}{xs:List V}(e:ai H H')(h:bI K H a xs):bI K H' a xs:=by
 rcases h with(h|⟨o,h⟩)|h
 ·exact .inl (.inl (e _ _ h))
 ·exact .inl (.inr ⟨o,e _ _ h⟩)
 ·exact .inr h
section
variable{κ:Type}[DecidableEq κ]
end
end L2
namespace GP
theorem LP{α:Type}:∀{l:List α},l.length=1->∃a,l=[a]
 |[a],_=>⟨a,rfl⟩
theorem CZ{α:Type}{n:Nat}:∀{l:List α},l.length=n+1->∃a r,l=a::r/\r.length=n
 |a::r,h=>⟨a,r,rfl,Nat.succ.inj h⟩
theorem Px{α:Type}{l:List α}(h:l.length=2):∃a b,l=[a,b]:=by
 obtain⟨a,r,rfl,k⟩:=CZ h
 obtain⟨b,rfl⟩:=LP k
 exact⟨a,b,rfl⟩
theorem JB{α:Type}{l:List α}(h:l.length=3):∃a b c,l=[a,b,c]:=by
 obtain⟨a,r,rfl,k⟩:=CZ h
 obtain⟨b,c,rfl⟩:=Px k
 exact⟨a,b,c,rfl⟩
theorem LO{α:Type}{l:List α}(h:l.length=4):∃a b c d,l=[a,b,c,d]:=by
 obtain⟨a,r,rfl,k⟩:=CZ h
 obtain⟨b,c,d,rfl⟩:=JB k
 exact⟨a,b,c,d,rfl⟩
theorem JA{α:Type}{l:List α}(h:l.length=5):∃a b c d e,l=[a,b,c,d,e]:=by
 obtain⟨a,r,rfl,k⟩:=CZ h
 obtain⟨b,c,d,e,rfl⟩:=LO k
 exact⟨a,b,c,d,e,rfl⟩
theorem RY{α:Type}{l:List α}(h:l.length=6):∃a b c d e f,l=[a,b,c,d,e,f]:=by
 obtain⟨a,r,rfl,k⟩:=CZ h
 obtain⟨b,c,d,e,f,rfl⟩:=JA k
 exact⟨a,b,c,d,e,f,rfl⟩
end GP
namespace L2
open PySem PySem.Spec PyProof.Rows
section
variable{X:Cx}
theorem zU:∀{bs:List Bool} {us:List Value},Vals (bs.map V.bl) us->∀(i:Nat) (v:Value),us[i]? =some v->∃b,bs[i]? =some b/\v= .bool b
 |[],_,r,i,v,e=>by
  cases r
  simp at e
 |b::bs,_,r,i,v,e=>by
  cases r with
  |cons r1 r2 =>
   cases i with
   |zero =>
    simp at e
    subst e
    exact⟨b,rfl,r1⟩
   |succ i =>
    obtain⟨c,h1,h2⟩:=zU r2 i v (by simpa using e)
    exact⟨c,by simpa using h1,h2⟩
theorem El(bs:List Bool):((List.range bs.length).all λi=>(bs[i]?).getD true)=bs.all id:=by
 rw[Bool.eq_iff_iff,List.all_eq_true,List.all_eq_true]
 constructor
 ·intro h b hb
  obtain⟨i,hi,rfl⟩:=List.getElem_of_mem hb
  have:=h i (List.mem_range.mpr hi)
  simpa only[List.getElem?_eq_getElem hi,Option.getD_some,id]using this
 ·intro h i hi
  have hi':=List.mem_range.mp hi
  simpa only[List.getElem?_eq_getElem hi',Option.getD_some,id]using h _ (List.getElem_mem hi')
theorem vo(hc:X.calm=true):lP X (.builtin "all") (λxs H Q=>∃(l:Addr) (bs:List Bool),xs=[.ref l]/\bI X.K H l (bs.map V.bl)/\Q (.bl (bs.all id)) H):=by
 intro pins s σ H xs us Q I r h
 obtain⟨l,bs,rfl,hl,q⟩:=h
 obtain⟨u,rfl,ru⟩:=vals1 r
 cases ru
 obtain⟨its,rv,p,hz⟩:=I.list hl
 have pl:s.heap.IsList l its.toArray:=p.isList
 have hlt:l<s.heap.objs.size:=by obtain⟨_,e,_⟩:=pl;exact Heap.lt_size e
 have hlen:bs.length=its.length:=by rw[←rv.length,List.length_map]
 refine TK.bY (Nat.le_refl s.toks) ?_
 refine call_all_walk (wpAny_pyIter_list pl ?_)
 refine⟨s.heap.objs.size,[s.heap.objs.size,l],[s.heap.objs.size],its.toArray.size,_,_,λi=>(bs[i]?).getD true,rfl,Walks.list (A:=X.A.in1) (I.ok.hd hc) _ l (Nat.ne_of_lt hlt) its.toArray,
  ⟨⟨_,Heap.get?_push_size _ rfl,rfl,rfl⟩,pl.push _⟩,λi v s' Q' E' hP hQ=>?_,λh' tk hk hup=>?_⟩
 ·obtain⟨b,e,rfl⟩:=zU rv i v (by simpa using hP)
  simp only[e,Option.getD_some]at hQ
  exact wpAny_truthy_bool hQ
 ·have e:((List.range its.toArray.size).all λi=>(bs[i]?).getD true)=bs.all id:=by
   rw[List.size_toArray,←hlen];exact El bs
  rw[e]
  refine⟨.bl (bs.all id),H,I.kept (t':=tk) (λb x e=>hk b x (λhm=>?_) (Heap.get?_push_of_some _ e)),rfl,q⟩
  rw[List.mem_singleton.mp hm]at e
  exact Nat.lt_irrefl _ (Heap.lt_size e)
end
theorem AA{X:Cx}{K':PySem.W.Frag}{es:List Expr}{k:Nat}{t:Ni}{n:Nat}{pos:Pos}(hK:X.K=K')(hc:X.calm=true)(h:TF X es t)
  (hn:(assignEach es X.env).length=n:=by rfl) (hst:(assignEach es X.env).findIdx? (·.1)=none:=by rfl):PG X (.Tuple es k pos) (Td K' n t):=by
 subst hK
 exact pX hc h hn hst
def Wm(t u:TS):TS:=λD σ H=>∃Mid:St->Hp->Prop,t { D with nx:=Mid } σ H/\∀ σ' H',Mid σ' H'->u D σ' H'
theorem bJ{X:Cx}{st:Stmt}{rest:List Stmt}{t u:TS}(h1:PS X st t)(h2:Aa X rest u):Aa X (st::rest) (Wm t u):=by
 intro pins s σ H D I h
 obtain⟨Mid,h,hm⟩:=h
 refine wpAny_execs_cons (fh (h1 pins s σ H { D with nx:=Mid } I h) λf s1 q=>?_)
 cases f with
 |next =>
  obtain⟨σ',H',I',q⟩:=q
  exact h2 pins s1 σ' H' D I' (hm σ' H' q)
 |ret v=>exact q
 |brk=>exact q
 |cont=>exact q
def ju(X:Cx)(scope:Scope)(cl:List (Str×Addr))(C:Addr)(N:List Str)(s:Shared)(H:Hp)(ex:List Addr)(pn:List (Addr×Obj))(E:Value->Shared->Prop):Cx :=
 { X with N:=N,s₀:=s,H₀:=H,env:=compEnvC scope cl C X.env,outer:=X.stack,ex:=ex,fn:=λx=>scope.names.lookup x==some .cell,pn:=pn,xe:=E }
structure cG(X:Cx)(scope:Scope)(cl:List (Str×Addr))(N:List Str)(om:St->St):Prop where
 clos:closureFor scope X.env=pure cl
 kind:scope.kind= .function
 cell:∀y∈scope.names,y.2= .cell->cl.lookup y.1=none
 names:∀y∈scope.names,y.2= .local->scope.names.lookup y.1=some .local
 sub:∀x c,cl.lookup x=some c->X.env.cells.lookup x=some c
 has:∀x,((relabel scope X.env).names.lookup x=some .cell\/(relabel scope X.env).names.lookup x=some .free)->scope.names.lookup x=some .cell\/∃c,cl.lookup x=some c
 len:∀ σ,(om σ).length=N.length
 fv:∀(σ:St) (i:Nat) (x:Str) (v:V),N[i]? =some x->(om σ)[i]? =some (some v)->UL (relabel scope X.env) x →
  ∃(j:Nat) (c:Addr),X.N[j]? =some x/\σ[j]? =some (some v)/\X.env.kindOf x=some .cell/\((relabel scope X.env).names.lookup x=some .cell\/(relabel scope X.env).names.lookup x=some .free)/\cl.lookup x=some c
structure KQ(cl Bj:List (Str×Addr))(scope:Scope)(n:Nat)(h₁:Heap):Prop where
 look:∀x c,Bj.lookup x=some c->(n<c/\h₁.IsCell c none)\/cl.lookup x=some c
 inj:∀x y c,n<c->Bj.lookup x=some c->Bj.lookup y=some c->(∀x,cl.lookup x≠some c)->x=y
 keep:∀x c,cl.lookup x=some c->Bj.lookup x=some c
 own:∀x,scope.names.lookup x=some .cell->∃c,Bj.lookup x=some c
theorem iy:∀(names:List (Str×NameKind)) (n:Nat) (acc:List (Str×Addr)),cellsFrom n names acc=cellsFrom n names []++acc
 |[],_,_=>rfl
 |(y,k)::r,n,acc=>by
  unfold cellsFrom
  split
  ·rw[iy r _ ((y,n)::acc),iy r _ [(y,n)],List.append_assoc];rfl
  ·exact iy r n acc
theorem n9:∀(names:List (Str×NameKind)) (n:Nat) (acc:List (Str×Addr)) (x:Str) (c:Addr),(x,c)∈cellsFrom n names acc->(x,NameKind.cell)∈names\/(x,c)∈acc
 |[],_,_,_,_,h=>.inr h
 |(y,k)::r,n,acc,x,c,h=>by
  unfold cellsFrom at h
  split at h
  next hk =>
   rcases n9 r _ _ x c h with z|z
   ·exact .inl (List.mem_cons_of_mem _ z)
   ·rcases List.mem_cons.mp z with e|e
    ·cases e
     have hk':k= .cell:=by simpa using hk
     rw[hk']
     exact .inl List.mem_cons_self
    ·exact .inr e
  next=>exact(n9 r _ _ x c h).imp (List.mem_cons_of_mem _) id
theorem Dv{X:Cx}{scope:Scope}{cl:List (Str×Addr)}{N:List Str}{om:St->St}(S:cG X scope cl N om){M:Model}{A:Around}{E:Value->Shared->Prop}{s:Shared}{Q:Env->Shared->Prop}
  (h:∀Bj h₁,KQ cl Bj scope s.heap.objs.size h₁->h₁.Ns s.heap.objs.size (λ_=>none)->(∀b o,s.heap.get? b=some o->h₁.get? b=some o)->Q { compEnvC scope Bj s.heap.objs.size X.env with scope:=scope } { s with heap:=h₁ }) :
  wpAny M A (newFunctionEnv scope X.env.globals cl [] X.env.qual none .none (some X.env)) Q E s:=by
 simp only[newFunctionEnv,Option.isSome_some,if_true]
 refine wpAny_bind (wpAny_alloc ?_)
 refine wpAny_bind (wpAny_layCells _ (λname kind cells=>by cases hkc:kind==NameKind.cell<;>simp[hkc]) _ _ _ _ ?_)
 have hz:(s.heap.push { cls:=.type "dict",data:=.dict #[] }).objs.size=s.heap.objs.size+1:=Heap.size_push ..
 have ok:=cellsFrom_ok scope.names (s.heap.push { cls:=.type "dict",data:=.dict #[] }) (s.heap.objs.size+1) [] ⟨λ_ _ hm=>(nomatch hm),List.Pairwise.nil⟩ (by rw[hz];exact Nat.le_refl _)
 simp only[List.forIn_nil]
 refine wpAny_bind (wpAny_pure (wpAny_pure (h (cellsFrom (s.heap.push { cls:=.type "dict",data:=.dict #[] }).objs.size scope.names cl) _ ⟨λx c e=>?_,λx y c _ ex ey hn=>?_,λx c e=>?_,λx e=>?_⟩ ((Heap.Ns.new s.heap (.type "dict")).keeps λb o e=>pushCells_keeps _ _ _ _ e) λb o e=>pushCells_keeps _ _ _ _ (Heap.get?_push_of_some _ e))))
 ·rw[iy,List.lookup_append]at e
  cases q:(cellsFrom (s.heap.push { cls:=.type "dict",data:=.dict #[] }).objs.size scope.names []).lookup x with
  |none=>rw[q]at e;exact .inr e
  |some d =>
   rw[q]at e
   cases e
   exact .inl ((ok.empty x c (mem_of_lookup q)).symm)
 ·rw[iy,List.lookup_append]at ex ey
  cases qx:(cellsFrom (s.heap.push { cls:=.type "dict",data:=.dict #[] }).objs.size scope.names []).lookup x with
  |none=>rw[qx]at ex;exact absurd ex (hn x)
  |some d =>
   rw[qx]at ex
   cases ex
   cases qy:(cellsFrom (s.heap.push { cls:=.type "dict",data:=.dict #[] }).objs.size scope.names []).lookup y with
   |none=>rw[qy]at ey;exact absurd ey (hn y)
   |some d =>
    rw[qy]at ey
    cases ey
    exact name_of_addr ok.apart (mem_of_lookup qx) (mem_of_lookup qy)
 ·rw[iy,List.lookup_append]
  cases q:(cellsFrom (s.heap.push { cls:=.type "dict",data:=.dict #[] }).objs.size scope.names []).lookup x with
  |none=>exact e
  |some d =>
   rcases n9 _ _ _ _ _ (mem_of_lookup q)with z|z
   ·rw[S.cell _ z rfl]at e;cases e
   ·cases z
 ·exact Option.isSome_iff_exists.mp (PySem.W.cellsFrom_some _ _ _ (.inl e))
theorem cG.plain{X:Cx}{scope:Scope}{N:List Str}(hfree:∀x∈scope.names,x.2≠ .free)(kind:scope.kind= .function)(_:∀y∈scope.names,y.2= .cell->(y.1,NameKind.free)∉scope.names)
  (names:∀y∈scope.names,y.2= .local->scope.names.lookup y.1=some .local):cG X scope [] N (λ_=>List.replicate N.length none):=by
 have hr:(relabel scope X.env).names=scope.names:=by
  unfold relabel
  exact map_eq_self λx hx=>by
   obtain⟨n,k⟩:=x
   have:(k==NameKind.free)=false:=by simpa using hfree _ hx
   simp[this]
 refine⟨closureFor_none hfree,kind,λ_ _ _=>rfl,names,λx c e=>by simp at e,λx hx=>?_,λσ=>List.length_replicate,λσ i x v _ e _=>?_⟩
 ·rw[hr]at hx
  rcases hx with hx|hx
  ·exact .inl hx
  ·exact absurd rfl (hfree _ (PySem.mem_of_lookup hx))
 ·rw[List.getElem?_replicate]at e
  split at e
  ·cases e
  ·cases e
def oM(look:Str->Option Addr):List (Str×NameKind)->List (Str×Addr)->List (Str×Addr)
 |[],acc=>acc
 |(n,k)::r,acc=>if(k==NameKind.free)=true then(match look n with|some a=>oM look r ((n,a)::acc)|none=>oM look r acc)else oM look r acc
theorem o9{env:Env}:∀(names:List (Str×NameKind)) (acc:List (Str×Addr)),(∀x∈names,x.2= .free->∃a,env.cells.lookup x.1=some a) →
  (forIn names acc (λ(x:Str×NameKind) (r:List (Str×Addr))=>match x with|(name,kind)=>if(kind==NameKind.free)=true then do let c ←cellOf env name;pure (ForInStep.yield ((name,c)::r))else pure (ForInStep.yield r)):Sem (List (Str×Addr)))=pure (oM (env.cells.lookup ·) names acc)
 |[],acc,_=>rfl
 |(n,k)::r,acc,h=>by
  rw[List.forIn_cons]
  dsimp only
  unfold oM
  by_cases hk:(k==NameKind.free)=true
  ·obtain⟨a,ha⟩:=h (n,k) List.mem_cons_self (by simpa using hk)
   have ha':env.cells.lookup n=some a:=ha
   rw[if_pos hk,if_pos hk,ha']
   have hc:cellOf env n=pure a:=by unfold cellOf;rw[ha']
   rw[hc]
   exact o9 r _ λx hx=>h x (List.mem_cons_of_mem _ hx)
  ·rw[if_neg hk,if_neg hk]
   exact o9 r _ λx hx=>h x (List.mem_cons_of_mem _ hx)
theorem tO{look:Str->Option Addr}:∀(names:List (Str×NameKind)) (acc:List (Str×Addr)),(∀x c,acc.lookup x=some c->look x=some c)->∀x c,(oM look names acc).lookup x=some c->look x=some c
 |[],acc,h=>h
 |(n,k)::r,acc,h=>by
  unfold oM
  by_cases hk:(k==NameKind.free)=true
  ·rw[if_pos hk]
   cases e:look n with
   |none=>exact tO r acc h
   |some a =>
    refine tO r _ λx c q=>?_
    rw[List.lookup_cons]at q
    by_cases hx:(x==n)=true
    ·rw[hx]at q
     have:x=n:=by simpa using hx
     rw[this,e]
     exact q
    ·have hx':(x==n)=false:=by simpa using hx
     rw[hx']at q
     exact h x c q
  ·rw[if_neg hk]
   exact tO r acc h
theorem pq{look:Str->Option Addr}:∀(names:List (Str×NameKind)) (acc:List (Str×Addr)) (x:Str),(∃c,acc.lookup x=some c)->∃c,(oM look names acc).lookup x=some c
 |[],_,_,h=>h
 |(n,k)::r,acc,x,h=>by
  unfold oM
  by_cases hk:(k==NameKind.free)=true
  ·rw[if_pos hk]
   cases e:look n with
   |none=>exact pq r acc x h
   |some a =>
    refine pq r _ x ?_
    rw[List.lookup_cons]
    cases hx:x==n with
    |true=>exact⟨a,rfl⟩
    |false=>exact h
  ·rw[if_neg hk]
   exact pq r acc x h
theorem qp{look:Str->Option Addr}:∀(names:List (Str×NameKind)) (acc:List (Str×Addr)) (x:Str),(x,NameKind.free)∈names->(∃a,look x=some a)->∃c,(oM look names acc).lookup x=some c
 |[],_,_,h,_=>by cases h
 |(n,k)::r,acc,x,h,ha=>by
  unfold oM
  rcases List.mem_cons.mp h with e|e
  ·obtain⟨a,ha⟩:=ha
   have e1:x=n:=congrArg Prod.fst e
   have e2:k=NameKind.free:=(congrArg Prod.snd e).symm
   subst e1 e2
   rw[if_pos (by decide),ha]
   refine pq r _ x ⟨a,?_⟩
   rw[List.lookup_cons]
   simp
  ·by_cases hk:(k==NameKind.free)=true
   ·rw[if_pos hk]
    cases e2:look n with
    |none=>exact qp r acc x e ha
    |some a=>exact qp r _ x e ha
   ·rw[if_neg hk]
    exact qp r acc x e ha
theorem tP{look:Str->Option Addr}:∀(names:List (Str×NameKind)) (acc:List (Str×Addr)) (x:Str) (c:Addr),(oM look names acc).lookup x=some c->(x,NameKind.free)∈names\/acc.lookup x=some c
 |[],_,_,_,h=>.inr h
 |(n,k)::r,acc,x,c,h=>by
  unfold oM at h
  by_cases hk:(k==NameKind.free)=true
  ·rw[if_pos hk]at h
   cases e:look n with
   |none=>rw[e]at h;exact(tP r acc x c h).imp (List.mem_cons_of_mem _) id
   |some a =>
    rw[e]at h
    rcases tP r _ x c h with z|z
    ·exact .inl (List.mem_cons_of_mem _ z)
    ·rw[List.lookup_cons]at z
     cases hx:x==n with
     |true =>
      have e1:x=n:=by simpa using hx
      have e2:k= .free:=by simpa using hk
      rw[e1,e2]
      exact .inl List.mem_cons_self
     |false=>rw[hx]at z;exact .inr z
  ·rw[if_neg hk]at h
   exact(tP r acc x c h).imp (List.mem_cons_of_mem _) id
theorem oV{env:Env}:∀{names:List (Str×NameKind)} {x:Str} {k:NameKind},
  (names.map λ(n,k)=>if(k==NameKind.free&&env.scope.kind== .function&&env.kindOf n==some .cell)then(n,NameKind.cell)else(n,k)).lookup x=some k →
  (k= .cell\/k= .free)->names.lookup x=some .cell\/(x,NameKind.free)∈names
 |[],_,_,h,_=>by simp at h
 |(n,j)::r,x,k,h,hk=>by
  rw[List.map_cons,List.lookup_cons]at h
  rw[List.lookup_cons]
  by_cases hj:(j==NameKind.free&&env.scope.kind== .function&&env.kindOf n==some .cell)=true
  ·simp only[hj,if_true]at h
   by_cases hx:(x==n)=true
   ·have e:x=n:=by simpa using hx
    have ej:j= .free:=by
     rw[Bool.and_eq_true,Bool.and_eq_true]at hj
     simpa using hj.1.1
    rw[e,←ej]
    exact .inr List.mem_cons_self
   ·have hx':(x==n)=false:=by simpa using hx
    rw[hx']at h ⊢
    exact(oV h hk).imp id (List.mem_cons_of_mem _)
  ·simp only[hj]at h
   by_cases hx:(x==n)=true
   ·have e:x=n:=by simpa using hx
    rw[e]at h
    simp at h
    subst h
    rw[hx]
    rcases hk with q|q
    ·rw[q];exact .inl rfl
    ·rw[e,←q]
     exact .inr List.mem_cons_self
   ·have hx':(x==n)=false:=by simpa using hx
    simp[hx']at h
    rw[hx']
    exact(oV (by simpa using h) hk).imp id (List.mem_cons_of_mem _)
def Uh(nt:Nat)(ix:List Nat)(σ:St):St:=List.replicate nt none++ix.map λj=>(σ[j]?).join
theorem cG.free{X:Cx}{scope:Scope}{N:List Str}{nt:Nat}{ix:List Nat}(kind:scope.kind= .function)(cell:∀y∈scope.names,y.2= .cell->(y.1,NameKind.free)∉scope.names)
  (names:∀y∈scope.names,y.2= .local->scope.names.lookup y.1=some .local) (hf:∀y∈scope.names,y.2= .free->X.env.kindOf y.1=some .cell)
  (hl:N.length=nt+ix.length) (hx:∀(k j:Nat),ix[k]? =some j->∃x,N[nt+k]? =some x/\X.N[j]? =some x/\(x,NameKind.free)∈scope.names/\(relabel scope X.env).names.lookup x=some .cell) (ok:X.Ok) :
  ∃cl,cG X scope cl N (Uh nt ix):=by
 have hcl:∀y∈scope.names,y.2= .free->∃a,X.env.cells.lookup y.1=some a:=λy hy hk=>ok.has y.1 (.inl (hf y hy hk))
 refine⟨oM (X.env.cells.lookup ·) scope.names [],?_,kind,λy hy hk=>?_,names,tO scope.names [] (λx c e=>by simp at e),λx h=>?_,λσ=>?_,λσ i x v e1 e2 e3=>?_⟩
 ·have z:=o9 scope.names [] hcl
  unfold closureFor
  dsimp only
  rw[z]
  rfl
 ·cases q:(oM (X.env.cells.lookup ·) scope.names []).lookup y.1 with
  |none=>rfl
  |some c =>
   rcases tP _ _ _ _ q with z|z
   ·exact absurd z (cell y hy hk)
   ·cases z
 ·have hm:scope.names.lookup x=some .cell\/(x,NameKind.free)∈scope.names:=by
   rcases h with h|h
   ·exact oV h (.inl rfl)
   ·exact oV h (.inr rfl)
  exact hm.imp id λhm=>qp scope.names [] x hm (hcl _ hm rfl)
 ·unfold Uh
  rw[List.length_append,List.length_replicate,List.length_map,hl]
 ·unfold Uh at e2
  by_cases hi:i<nt
  ·rw[List.getElem?_append_left (by rw[List.length_replicate];exact hi),List.getElem?_replicate]at e2
   split at e2
   ·cases e2
   ·cases e2
  ·rw[List.getElem?_append_right (by rw[List.length_replicate];omega),List.length_replicate,List.getElem?_map]at e2
   cases ej:ix[i-nt]? with
   |none=>rw[ej]at e2;cases e2
   |some j =>
    rw[ej]at e2
    have UJ:(σ[j]?).join=some v:=Option.some.inj e2
    obtain⟨x',n1,n2,n3,n4⟩:=hx (i-nt) j ej
    rw[show nt+(i-nt)=i by omega,e1]at n1
    cases n1
    obtain⟨c,hc⟩:=qp (look:=(X.env.cells.lookup ·)) scope.names [] x n3 (hcl _ n3 rfl)
    refine⟨j,c,n2,?_,hf _ n3 rfl,.inl n4,hc⟩
    cases es:σ[j]? with
    |none=>rw[es]at UJ;cases UJ
    |some o=>rw[es]at UJ;rw[show o=some v from UJ]
def Kp(a b:St):Prop:=∀(i:Nat) (v:V),a[i]? =some (some v)->b[i]? =some (some v)
theorem Kp.rep(n:Nat)(b:St):Kp (List.replicate n none) b:=λi v e=>by
 rw[List.getElem?_replicate]at e
 split at e
 ·cases e
 ·cases e
def Iw(wi:TI)(g:TG)(te:TE)(om:St->St):TE:=λσ H Q=>wi σ H λJ H1=>∀l,H1 l=none->∃W:Nat->Nat->List V->Hp->Prop,(∃m,W 0 m [] (upd H1 l (.lst []))) ∧
 ∀i m ys H2,W i m ys H2->(J.stop i H2/\Q (.ref l) H2) ∨
  (J.go i H2/\∀x H3,J.Ad i H2 x H3->g x (om σ) H3 λud H4=>Kp (om σ) ud/\te ud H4 λy H5=>H5 l=some (.lst ys)/\ys.length<sizeLine/\∃m',m'<m/\W (i+1) m' (ys++[y]) (upd H5 l (.lst (ys++[y]))))
theorem Inv.Il{X:Cx}{pins:List (Addr×Obj)}{σ:St}{H:Hp}{s:Shared}(I:Inv X pins σ H s):Inv X [] σ H s:=I.Ax λ_ hp=>nomatch hp
theorem mO.but{P:Program}{w:World}{H:Hp}{h h':Heap}{C:Addr}(x:mO P w H h)(hC:H C=none)(sb:Heap.SameBut C h h'):mO P w H h':=λb u e =>
 (x b u e).stay (λc v hc q=>(sb.2 c (by
  rintro rfl
  rcases hc with z|z
  ·rw[z,e]at hC;cases hC
  ·rw[hC]at z;cases z)).trans q) (λ_ q=>q) λ_ _ q=>q
section
variable{X:Cx}{pins:List (Addr×Obj)}{σ:St}{H:Hp}{s:Shared}{scope:Scope}{cl:List (Str×Addr)}{N:List Str}{om:St->St}{fp:List Addr}{h₁:Heap}{m:Str->Option Value}{E:Value->Shared->Prop}
theorem C9{Bj:List (Str×Addr)}(S:cG X scope cl N om)(G:KQ cl Bj scope s.heap.objs.size h₁)(I:Inv X pins σ H s)(hf:∀b∈fp,pK X pins H b/\b<s.heap.objs.size)(kp:∀b o,s.heap.get? b=some o->h₁.get? b=some o)(hns:h₁.Ns s.heap.objs.size m)(t':Nat)(ht:s.toks<=t':=by first|exact Nat.le_refl _|exact Nat.le_succ _|assumption|omega):
  Inv (ju X scope Bj s.heap.objs.size N s H fp (X.pn++pins) E) [] (om σ) H { s with heap:=h₁,toks:=t' }:=by
 have RN:∀b,b≠X.env.locals->b∉X.fs->b∉frs X.stack:=λb h1 h2 z=>by
  rcases List.mem_cons.mp (I.rH b z)with q|q
  ·exact h1 q
  ·exact h2 q
 have Mr:∀x c,cl.lookup x=some c->c<s.heap.objs.size:=λx c e=>by
  obtain⟨v,o,ho,_⟩:=I.cell x c (S.sub x c e)
  exact Heap.lt_size ho
 refine⟨⟨I.mod,S.kind,I.ok.glob,I.ok.blt,Nat.le_refl _,λx y c a b=>?_,λx h=>(S.has x h).elim (G.own x) λ⟨c,e⟩=>⟨c,G.keep x c e⟩,λx c z e=>?_,I.ok.hd,I.ok.frames,.inl rfl,λb hb=>?_,I.bs,Nat.le_trans I.ok.Kv I.sz,λb o e hb=>?_,λb hb=>?_,I.stack,I.Ai,I.tk⟩,
  rfl,I.bare,Un.kept kp,⟨m,hns,λi x v e1 e2 e3=>?_⟩,λx c e=>?_,I.hok.fresh (Nat.le_refl _),λx c e=>(G.look x c e).elim (λz=>I.hok.fresh (Nat.le_of_lt z.1)) λz=>I.kc x c (S.sub x c z),λp hp=>?_,I.hok.kept kp,S.len σ,ht⟩
 ·by_cases hc:s.heap.objs.size<c
  ·exact G.inj x y c hc a b λz e=>Nat.lt_asymm hc (Mr z c e)
  ·exact I.ok.inj x y c (S.sub x c ((G.look x c a).elim (λz=>absurd z.1 hc) id)) (S.sub y c ((G.look y c b).elim (λz=>absurd z.1 hc) id))
 ·rcases G.look x c e with q|q
  ·exact Nat.le_of_lt q.1
  ·have z2:(scope.names.lookup x==some NameKind.cell)=true:=z
   have z':scope.names.lookup x=some .cell:=by simpa using z2
   rw[S.cell _ (mem_of_lookup z') rfl]at q
   cases q
 ·obtain⟨⟨_,_,_,_,f4,_⟩,lt⟩:=hf b hb
  exact⟨Nat.ne_of_lt lt,λx c e=>(G.look x c e).elim (λz=>Nat.ne_of_gt (Nat.lt_trans lt z.1)) λz=>f4 x c (S.sub x c z)⟩
 ·obtain⟨⟨f0,_,_,f3,_⟩,_⟩:=hf b hb
  rcases f3 with z|z
  ·exact I.ok.EA b o e z
  ·exact absurd (Nat.lt_of_lt_of_le (Heap.lt_size e) (Nat.le_trans I.ok.Kv z)) (Nat.lt_irrefl _)
 ·obtain⟨⟨_,f1,f2,_⟩,_⟩:=hf b hb
  exact RN b f1 f2
 ·obtain⟨j,c,n1,n2,n3,n4,n5⟩:=S.fv σ i x v e1 e2 e3
  obtain⟨mX,_,hl⟩:=I.loc
  obtain⟨u,r,l⟩:=hl j x v n1 n2 (.inr (.inl n3))
  refine⟨u,r,.inr ⟨n4,c,G.keep x c n5,?_⟩⟩
  rcases l with⟨k,_⟩|⟨_,c',ec,o,ho,hd⟩
  ·have k':X.env.scope.names.lookup x=some .local:=k
   have Zs:X.env.scope.names.lookup x=some .cell:=n3
   rw[k']at Zs;cases Zs
  ·have q:=S.sub x c n5
   rw[q]at ec;cases ec
   exact⟨o,kp _ _ ho,hd⟩
 ·rcases G.look x c e with z|z
  ·exact⟨none,z.2⟩
  ·obtain⟨v,o,ho,hd⟩:=I.cell x c (S.sub x c z)
   exact⟨v,o,kp _ _ ho,hd⟩
 ·have Uw:p∈X.pn++pins:=by
   rcases List.mem_append.mp hp with z|z
   ·exact z
   ·cases z
  obtain⟨a,b,c,d,e⟩:=I.pin p Uw
  exact⟨kp _ _ a,b,Nat.ne_of_lt (Heap.lt_size a),RN _ c d,e⟩
end
end L2
namespace L2
open PySem PySem.Spec PyProof.Rows
inductive Cp where
 |lst (a:Addr)|tup (a:Addr)|txt (x:Str)
def fj(x:Str):List V:=x.cps.toList.map λc=>V.str ⟨#[c]⟩
def Cp.val:Cp->V
 | .lst a=>.ref a
 | .tup a=>.ref a
 | .txt x=>.str x
def Cp.at(K:PySem.W.Frag)(H:Hp):Cp->List V->Prop
 | .lst a=>bI K H a
 | .tup a=>dR K H a
 | .txt x=>λxs=>xs=fj x
def Cp.DW(h:Heap)(it:Addr)(i:Nat):Cp->Prop
 | .lst a=>h.IsListIter it a i
 | .tup a=>h.IsTupleIter it a i
 | .txt x=>∃t,h.IsStrIter it (strIterType x) x t i
def Cp.src(h:Heap):Cp->List V->Prop
 | .lst a=>λxs=>∃its,Vals xs its/\h.IsList a its.toArray
 | .tup a=>λxs=>∃its,Vals xs its/\h.IsTuple a its.toArray
 | .txt x=>λxs=>xs=fj x
def Cp.off(b:Addr):Cp->Prop
 | .lst a=>a≠b
 | .tup a=>a≠b
 | .txt _=>True
section
variable{X:Cx}{pins:List (Addr×Obj)}{σ:St}{H:Hp}{s:Shared}{c d:Cp}{xs ys:List V}
theorem Cp.oQ(I:Inv X pins σ H s)(h:c.at X.K H xs):c.src s.heap xs:=by
 cases c with
 |lst a=>obtain⟨its,r,p,_⟩:=I.list h;exact⟨its,r,p.isList⟩
 |tup a=>obtain⟨its,r,p,_⟩:=I.tuple h;exact⟨its,r,p⟩
 |txt x=>exact h
theorem Cp.E8(I:Inv X pins σ H s)(h:c.at X.K H xs)(h':c.at X.K H ys):xs=ys:=by
 cases c with
 |lst a=>exact I.xM h h'
 |tup a=>exact I.zu h h'
 |txt x=>exact(show xs=fj x from h).trans (show ys=fj x from h').symm
theorem Cp.nX {h:Heap} {b:Addr} {o:Obj} {T:String} (hs:c.src h xs) (hb:h.get? b=some o) (hc:o.cls= .type T) (n1:T≠ "list") (n2:T≠ "tuple"):c.off b:=by
 cases c with
 |lst a =>
  obtain⟨its,_,o',ho,hc',_⟩:=hs
  intro e
  rw[e,hb]at ho
  cases ho
  rw[hc]at hc'
  injection hc' with q
  exact n1 q
 |tup a =>
  obtain⟨its,_,o',ho,hc',_⟩:=hs
  intro e
  rw[e,hb]at ho
  cases ho
  rw[hc]at hc'
  injection hc' with q
  exact n2 q
 |txt x=>trivial
theorem Cp.F3{h:Heap}{b:Addr}(hs:c.src h xs)(hb:h.objs.size<=b):c.off b:=by
 cases c with
 |lst a =>
  obtain⟨its,_,o',ho,_⟩:=hs
  exact Nat.ne_of_lt (Nat.lt_of_lt_of_le (Heap.lt_size ho) hb)
 |tup a =>
  obtain⟨its,_,o',ho,_⟩:=hs
  exact Nat.ne_of_lt (Nat.lt_of_lt_of_le (Heap.lt_size ho) hb)
 |txt x=>trivial
theorem Cp.kX{h h':Heap}{b:Addr}(hs:c.src h xs)(hx:Heap.ExtBut b h h')(ho:c.off b):c.src h' xs:=by
 cases c with
 |lst a=>obtain⟨its,r,p⟩:=hs;exact⟨its,r,p.extBut hx ho⟩
 |tup a=>obtain⟨its,r,p⟩:=hs;exact⟨its,r,p.extBut hx ho⟩
 |txt x=>exact hs
theorem Cp.IB{h h':Heap}(hs:c.src h xs)(hx:∀b o,h.get? b=some o->h'.get? b=some o):c.src h' xs:=by
 cases c with
 |lst a=>obtain⟨its,r,o,ho,q⟩:=hs;exact⟨its,r,o,hx _ _ ho,q⟩
 |tup a=>obtain⟨its,r,o,ho,q⟩:=hs;exact⟨its,r,o,hx _ _ ho,q⟩
 |txt x=>exact hs
theorem Cp.j8{h:Heap}{it:Addr}{i:Nat}(q:c.DW h it i):∃o T vs,h.get? it=some o/\o.cls= .type T/\o.data= .fields vs/\T≠ "list" /\T≠ "tuple" :=by
 cases c with
 |lst a=>obtain⟨o,ho,hc,hd⟩:=q;exact⟨o,_,_,ho,hc,hd,by decide,by decide⟩
 |tup a=>obtain⟨o,ho,hc,hd⟩:=q;exact⟨o,_,_,ho,hc,hd,by decide,by decide⟩
 |txt x =>
  obtain⟨t,o,ho,hc,hd⟩:=q
  refine⟨o,_,_,ho,hc,hd,?_,?_⟩
  ·unfold strIterType;split<;>decide
  ·unfold strIterType;split<;>decide
theorem Cp.jc{h h':Heap}{it:Addr}{i:Nat}(q:c.DW h it i)(e:∀o,h.get? it=some o->h'.get? it=some o):c.DW h' it i:=by
 cases c with
 |lst a=>obtain⟨o,ho,r⟩:=q;exact⟨o,e _ ho,r⟩
 |tup a=>obtain⟨o,ho,r⟩:=q;exact⟨o,e _ ho,r⟩
 |txt x=>obtain⟨t,o,ho,r⟩:=q;exact⟨t,o,e _ ho,r⟩
end
section
variable{prog:Program}{w:World}{A:Around}{E:Value->Shared->Prop}{s:Shared}{c d:Cp}{xs ys:List V}
theorem sY{it t:Addr}{i:Nat}{items}{x:Value}{Q:Value->Shared->Prop}(hit:s.heap.IsTupleIter it t i)
  (ht:s.heap.IsTuple t items) (hx:items[i]? =some x)
  (hQ:∀h',h'.IsTupleIter it t (i+1)->Heap.SameBut it s.heap h'->Q x { s with heap:=h' }) :
  wpAny (model prog w) A (Builtin.SmallTypes.nextOf (.ref it)) Q E s:=by
 obtain⟨o,ho,hc,hd⟩:=id hit
 obtain⟨ol,JM,_,nl,hdl⟩:=ht
 unfold Builtin.SmallTypes.nextOf
 refine wpAny_bind (wpAny_callSpecial?_slot (name:=Str.ofString "__next__") hit.typeIs F.slot_tuple_iterator_next
  (wpAny_call_entry F.slot_tuple_iterator_next hit.typeIs F.entry_tuple_iterator_next ?_ (F.args_tuple_iterator_next_1 _)))
 show wpAny _ _ (field (.ref it) 0 >>= _) _ _ s
 refine wpAny_bind (wpAny_field ho hd (x:=.ref t) rfl ?_)
 show wpAny _ _ (if(Value.ref t==Value.none)=true then _ else _) _ _ s
 rw[if_neg (show ¬((Value.ref t==Value.none)=true) from Bool.false_ne_true)]
 show wpAny _ _ (field (.ref it) 1 >>= _) _ _ s
 refine wpAny_bind (wpAny_field ho hd (x:=.int i 0) rfl ?_)
 show wpAny _ _ (seqItems? (.ref t) >>= _) _ _ s
 refine wpAny_bind (wpAny_seqItems JM hdl ?_)
 simp only[Int.toNat_natCast,hx]
 refine wpAny_bind (wpAny_setField ho hd (by simp) (wpAny_pure ⟨x,rfl,wpAny_pure (hQ _ ?_ (Heap.SameBut.update ..))⟩))
 exact⟨_,Heap.get?_update_self _ ho (Obj.isFreed_of_fields (Obj.data_mapFields hd _)),(Obj.cls_mapFields ..).trans hc,by
  rw[Obj.data_mapFields hd];simp[rawInt]⟩
theorem uD{it t:Addr}{i:Nat}{items}{Q:Value->Shared->Prop}(hh:A.handled=none)
  (hit:s.heap.IsTupleIter it t i) (ht:s.heap.IsTuple t items) (hx:items[i]? =none)
  (hE:∀h' e,Heap.ExtBut it s.heap h'->(∃o,h'.get? e=some o/\o.cls= .type "StopIteration")->E (.ref e) { s with heap:=h' }) :
  wpAny (model prog w) A (Builtin.SmallTypes.nextOf (.ref it)) Q E s:=by
 obtain⟨o,ho,hc,hd⟩:=id hit
 obtain⟨ol,JM,_,nl,hdl⟩:=ht
 unfold Builtin.SmallTypes.nextOf
 refine wpAny_bind (wpAny_callSpecial?_slot (name:=Str.ofString "__next__") hit.typeIs F.slot_tuple_iterator_next
  (wpAny_call_entry F.slot_tuple_iterator_next hit.typeIs F.entry_tuple_iterator_next ?_ (F.args_tuple_iterator_next_1 _)))
 show wpAny _ _ (field (.ref it) 0 >>= _) _ _ s
 refine wpAny_bind (wpAny_field ho hd (x:=.ref t) rfl ?_)
 show wpAny _ _ (if(Value.ref t==Value.none)=true then _ else _) _ _ s
 rw[if_neg (show ¬((Value.ref t==Value.none)=true) from Bool.false_ne_true)]
 show wpAny _ _ (field (.ref it) 1 >>= _) _ _ s
 refine wpAny_bind (wpAny_field ho hd (x:=.int i 0) rfl ?_)
 show wpAny _ _ (seqItems? (.ref t) >>= _) _ _ s
 refine wpAny_bind (wpAny_seqItems JM hdl ?_)
 simp only[Int.toNat_natCast,hx]
 refine wpAny_bind (wpAny_rule (wpAny_bind (wpAny_setField ho hd (by simp) ?_)))
 show wpAny _ _ (newExc (.type "StopIteration") [] >>= _) _ _ _
 refine wpAny_bind ?_
 simp only[newExc,newTuple]
 refine wpAny_bind (wpAny_newObj_type ?_ (by size_fits))
 refine wpAny_bind (m:=firstArgMember _ _) (wpAny_of_eq (a:=Value.none) (by first|rfl|(simp only[firstArgMember];rfl)) ?_)
 refine wpAny_newObj_type ?_ (by size_fits)
 simp only[raiseNew]
 refine wpAny_bind (wpAny_handled ?_)
 first|rw[show A.in1.handled=none from hh]|rw[hh]
 refine wpAny_bind (wpAny_pure (wpAny_throw ?_))
 exact hE _ _ (((Heap.SameBut.update ..).extBut.push _).push _) ⟨_,Heap.get?_push_size _ rfl,rfl⟩
theorem signs_get{x:Str}{i:Nat}{v:V}(h:(fj x)[i]? =some v):∃k,x.cps[i]? =some k/\v= .str ⟨#[k]⟩:=by
 unfold fj at h
 rw[List.getElem?_map]at h
 cases e:x.cps.toList[i]? with
 |none=>rw[e]at h;cases h
 |some k =>
  rw[e]at h
  exact⟨k,by simpa using e,(Option.some.inj h).symm⟩
theorem GK{x:Str}{i:Nat}(h:(fj x)[i]? =none):x.cps[i]? =none:=by
 unfold fj at h
 rw[List.getElem?_map]at h
 cases e:x.cps.toList[i]? with
 |none=>simpa using e
 |some k=>rw[e]at h;cases h
theorem Cp.item{it:Addr}{i:Nat}{x:V}{Q:Value->Shared->Prop}(hit:c.DW s.heap it i)(hs:c.src s.heap xs)(hx:xs[i]? =some x)
  (hQ:∀u h' tk,RelV x u->c.DW h' it (i+1)->Heap.SameBut it s.heap h'->Q u { s with heap:=h',toks:=tk }) :
  wpAny (model prog w) A (Builtin.SmallTypes.nextOf (.ref it)) Q E s:=by
 cases c with
 |lst a =>
  obtain⟨its,r,p⟩:=hs
  obtain⟨u,hu,ru⟩:=r.get hx
  exact wpAny_nextOf_list_item hit p (x:=u) (by simpa using hu) λh' q sb=>hQ u h' s.toks ru q sb
 |tup a =>
  obtain⟨its,r,p⟩:=hs
  obtain⟨u,hu,ru⟩:=r.get hx
  exact sY hit p (x:=u) (by simpa using hu) λh' q sb=>hQ u h' s.toks ru q sb
 |txt x' =>
  obtain⟨t,q⟩:=hit
  rw[show xs=fj x' from hs]at hx
  obtain⟨k,hk,rfl⟩:=signs_get hx
  unfold strIterType at q
  by_cases ha:(x'.cps.all (·<128))=true
  ·rw[if_pos ha]at q
   exact wpAny_nextOf_ascii_item q hk λh' q' sb=>hQ _ h' _ ⟨_,rfl⟩ ⟨t,by unfold strIterType;rw[if_pos ha];exact q'⟩ sb
  ·rw[if_neg ha]at q
   exact wpAny_nextOf_wide_item q hk λh' q' sb=>hQ _ h' _ ⟨_,rfl⟩ ⟨t,by unfold strIterType;rw[if_neg ha];exact q'⟩ sb
theorem Cp.fin{it:Addr}{i:Nat}{Q:Value->Shared->Prop}(hh:A.handled=none)(hit:c.DW s.heap it i)(hs:c.src s.heap xs)(hx:xs[i]? =none)
  (hE:∀h' e,Heap.ExtBut it s.heap h'->(∃o,h'.get? e=some o/\o.cls= .type "StopIteration")->E (.ref e) { s with heap:=h' }) :
  wpAny (model prog w) A (Builtin.SmallTypes.nextOf (.ref it)) Q E s:=by
 cases c with
 |lst a =>
  obtain⟨its,r,p⟩:=hs
  exact wpAny_nextOf_list_end hh hit p (by simpa using r.none_of hx) hE
 |tup a =>
  obtain⟨its,r,p⟩:=hs
  exact uD hh hit p (by simpa using r.none_of hx) hE
 |txt x' =>
  obtain⟨t,q⟩:=hit
  rw[show xs=fj x' from hs]at hx
  have hk:=GK hx
  unfold strIterType at q
  by_cases ha:(x'.cps.all (·<128))=true
  ·rw[if_pos ha]at q
   exact wpAny_nextOf_ascii_end hh q hk hE
  ·rw[if_neg ha]at q
   exact wpAny_nextOf_wide_end hh q hk hE
structure x6(z TI TO i1 i2:Addr):Prop where
 TIz:TI≠z
 TOz:TO≠z
 i1z:i1≠z
 i2z:i2≠z
 TITO:TI≠TO
 TIi1:TI≠i1
 TIi2:TI≠i2
 TOi1:TO≠i1
 TOi2:TO≠i2
 i12:i1≠i2
structure Gw(h:Heap)(z TI TO i1 i2:Addr)(c d:Cp)(f0:Value)(i:Nat):Prop where
 zz:IsZip h z TI TO f0
 ti:IsPair h TI (.ref i1) (.ref i2)
 to:∃a b,IsPair h TO a b
 h1:c.DW h i1 i
 h2:d.DW h i2 i
 c1:c.off TO
 c2:d.off TO
theorem Ib{z TI TO i1 i2:Addr}{i:Nat}{x y:V}{Q:Option Value->Shared->Prop}(D:x6 z TI TO i1 i2)(Z:Gw s.heap z TI TO i1 i2 c d .none i)
  (sc:c.src s.heap xs) (sd:d.src s.heap ys) (hx:xs[i]? =some x) (hy:ys[i]? =some y)
  (hQ:∀u v h' tk,RelV x u->RelV y v->Gw h' z TI TO i1 i2 c d (rawInt s.heap.objs.size) (i+1)->IsPair h' s.heap.objs.size u v →
   (∀b o,b≠z->b≠TO->b≠i1->b≠i2->s.heap.get? b=some o->h'.get? b=some o)->Q (some (.ref s.heap.objs.size)) { s with heap:=h',toks:=tk }) :
  wpAny (model prog w) A (pyNext (.ref z)) Q E s:=by
 obtain⟨hz,hTI,⟨a,b,hTO⟩,h1,h2,c1,c2⟩:=id Z
 have hT:s.TypeIs (.ref z) "zip" :=⟨_,hz,rfl⟩
 obtain⟨WI,T1,_,hi1,Tq,_,RS,MU⟩:=Cp.j8 h1
 obtain⟨Zk,T2,_,hi2,ci2,_,n21,n22⟩:=Cp.j8 h2
 have cz:c.off z:=Cp.nX sc hz rfl (by decide) (by decide)
 have dz:d.off z:=Cp.nX sd hz rfl (by decide) (by decide)
 have ci:c.off i1:=Cp.nX sc hi1 Tq RS MU
 have di:d.off i1:=Cp.nX sd hi1 Tq RS MU
 unfold pyNext
 refine wpAny_bind (wpAny_attempt (wpAny_callSpecial?_slot (name:=Str.ofString "__next__") hT F.slot_zip_next
  (wpAny_call_entry F.slot_zip_next hT F.entry_zip_next ?_ (F.args_zip_next_1 _))))
 show wpAny _ _ (field (.ref z) 2 >>= _) _ _ _
 refine wpAny_bind (wpAny_field hz rfl (x:=.bool false) rfl ?_)
 show wpAny _ _ (field (.ref z) 3 >>= _) _ _ _
 refine wpAny_bind (wpAny_field hz rfl (x:=.ref TI) rfl ?_)
 refine wpAny_bind (wpAny_seqItems hTI rfl ?_)
 show wpAny _ _ (Builtin.SmallTypes.ownedTupleIsFree (.ref z) >>= _) _ _ _
 refine wpAny_bind ?_
 unfold Builtin.SmallTypes.ownedTupleIsFree
 refine wpAny_bind (wpAny_field hz rfl (x:=.none) rfl (wpAny_pure ?_))
 simp only[if_true]
 refine wpAny_bind (wpAny_rule ?_)
 refine wpAny_bind (wpAny_field hz rfl (x:=.ref TO) rfl ?_)
 refine wpAny_bind (wpAny_setField_rec hz (by simp) λh₁ vg hs₁=>?_)
 replace vg:IsZip h₁ z TI TO .ellipsis:=vg
 refine wpAny_bind ?_
 simp only[List.zipIdx_cons,List.zipIdx_nil,List.forIn_cons,List.forIn_nil]
 refine wpAny_bind (wpAny_bind (wpAny_onRaise ?_))
 show wpAny _ _ (Builtin.SmallTypes.nextOf (.ref i1) >>= _) _ _ _
 refine wpAny_bind (Cp.item (c:=c) (Cp.jc h1 λo e=>hs₁.extBut _ _ D.i1z e) (Cp.kX sc hs₁.extBut cz) hx λu h₂ tk₂ ru Nc hs₂=>wpAny_pure ?_)
 have xQ:IsPair h₂ TO a b:=hs₂.extBut _ _ D.TOi1 (hs₁.extBut _ _ D.TOz hTO)
 refine wpAny_bind (wpAny_seqItems xQ rfl ?_)
 refine wpAny_bind (wpAny_updateSeq_pair xQ λh₃ A7 nQ=>?_)
 replace A7:IsPair h₃ TO u b:=A7
 refine wpAny_bind (wpAny_letGo (wpAny_pure ?_))
 refine wpAny_bind (wpAny_bind (wpAny_onRaise ?_))
 show wpAny _ _ (Builtin.SmallTypes.nextOf (.ref i2) >>= _) _ _ _
 refine wpAny_bind (Cp.item (c:=d) (Cp.jc h2 λo e=>nQ.extBut _ _ D.TOi2.symm (hs₂.extBut _ _ D.i12.symm (hs₁.extBut _ _ D.i2z e))) (Cp.kX (Cp.kX (Cp.kX sd hs₁.extBut dz) hs₂.extBut di) nQ.extBut c2) hy λv h₄ tk₄ rv S9 vj=>wpAny_pure ?_)
 have JS:IsPair h₄ TO u b:=vj.extBut _ _ D.TOi2 A7
 refine wpAny_bind (wpAny_seqItems JS rfl ?_)
 refine wpAny_bind (wpAny_updateSeq_pair JS λh₅ A4 vh=>?_)
 replace A4:IsPair h₅ TO u v:=A4
 refine wpAny_bind (wpAny_letGo (wpAny_pure (wpAny_pure ?_)))
 refine wpAny_bind (wpAny_seqItems A4 rfl ?_)
 refine wpAny_bind (wpAny_newTuple ?_)
 have hsz:h₅.objs.size=s.heap.objs.size:=by rw[vh.1,vj.1,nQ.1,hs₂.1,hs₁.1]
 have MX:IsZip h₅ z TI TO .ellipsis:=vh.extBut _ _ D.TOz.symm (vj.extBut _ _ D.i2z.symm (nQ.extBut _ _ D.TOz.symm (hs₂.extBut _ _ D.i1z.symm vg)))
 have M8:∀e o,e≠z->e≠TO->e≠i1->e≠i2->s.heap.get? e=some o->h₅.get? e=some o:=λe o e1 e2 e3 e4 q =>
  vh.extBut _ _ e2 (vj.extBut _ _ e4 (nQ.extBut _ _ e2 (hs₂.extBut _ _ e3 (hs₁.extBut _ _ e1 q))))
 have Tc:c.DW h₅ i1 (i+1):=Cp.jc Nc λo e=>vh.extBut _ _ D.TOi1.symm (vj.extBut _ _ D.i12 (nQ.extBut _ _ D.TOi1.symm e))
 have S8:d.DW h₅ i2 (i+1):=Cp.jc S9 λo e=>vh.extBut _ _ D.TOi2.symm e
 have Sy:z<h₅.objs.size:=Heap.lt_size MX
 show wpAny _ _ (Builtin.SmallTypes.ownedTupleHandOut (.ref z) (.ref h₅.objs.size) >>= _) _ _ _
 refine wpAny_bind ?_
 unfold Builtin.SmallTypes.ownedTupleHandOut
 have Sx:IsZip (h₅.push { cls:=.type "tuple",data:=.seq #[u,v] }) z TI TO .ellipsis:=Heap.get?_push_of_some _ MX
 refine wpAny_bind (wpAny_setField_rec Sx (by simp) λXl JH M4=>?_)
 replace JH:IsZip Xl z TI TO (rawInt h₅.objs.size):=JH
 refine wpAny_setField_rec JH (by simp) λL5 Gf M3=>?_
 replace Gf:IsZip L5 z TI TO (rawInt h₅.objs.size):=Gf
 have up:∀e o,e≠z->h₅.get? e=some o->L5.get? e=some o:=λe o e1 q=>M3.extBut _ _ e1 (M4.extBut _ _ e1 (Heap.get?_push_of_some _ q))
 have Nb:IsPair L5 h₅.objs.size u v:=M3.extBut _ _ (Nat.ne_of_gt Sy) (M4.extBut _ _ (Nat.ne_of_gt Sy) (Heap.get?_push_size _ rfl))
 rw[hsz]at Gf Nb
 refine wpAny_pure ⟨_,rfl,wpAny_pure ?_⟩
 show Q (some (.ref h₅.objs.size)) _
 rw[hsz]
 exact hQ u v L5 _ ru rv ⟨Gf,up _ _ D.TIz (M8 _ _ D.TIz D.TITO D.TIi1 D.TIi2 hTI),⟨_,_,up _ _ D.TOz A4⟩,Cp.jc Tc λo e=>up _ o D.i1z e,Cp.jc S8 λo e=>up _ o D.i2z e,c1,c2⟩ Nb
  λe o e1 e2 e3 e4 q=>up e o e1 (M8 e o e1 e2 e3 e4 q)
theorem K5{z TI TO i1 i2:Addr}{i:Nat}{Q:Option Value->Shared->Prop}(hh:A.handled=none)(D:x6 z TI TO i1 i2)(Z:Gw s.heap z TI TO i1 i2 c d .none i)
  (sc:c.src s.heap xs) (sd:d.src s.heap ys) (hend:xs[i]? =none\/ys[i]? =none)
  (hQ:∀h' tk,(∀b o,b≠z->b≠TO->b≠i1->b≠i2->s.heap.get? b=some o->h'.get? b=some o)->Q none { s with heap:=h',toks:=tk }) :
  wpAny (model prog w) A (pyNext (.ref z)) Q E s:=by
 obtain⟨hz,hTI,⟨a,b,hTO⟩,h1,h2,c1,c2⟩:=id Z
 have hT:s.TypeIs (.ref z) "zip" :=⟨_,hz,rfl⟩
 obtain⟨WI,T1,_,hi1,Tq,_,RS,MU⟩:=Cp.j8 h1
 have cz:c.off z:=Cp.nX sc hz rfl (by decide) (by decide)
 have dz:d.off z:=Cp.nX sd hz rfl (by decide) (by decide)
 have ci:c.off i1:=Cp.nX sc hi1 Tq RS MU
 have di:d.off i1:=Cp.nX sd hi1 Tq RS MU
 have stop:∀(h':Heap) (e:Addr) (tk:Nat),(∃o,h'.get? e=some o/\o.cls= .type "StopIteration")->(∀b o,b≠z->b≠TO->b≠i1->b≠i2->s.heap.get? b=some o->h'.get? b=some o) →
   wpAny (model prog w) A (isInstance (.ref e) (.type "StopIteration") >>= λb=>if b=true then pure (none:Option Value)else throw (.ref e)) Q E { s with heap:=h',toks:=tk }:=by
  intro h' e tk he hk
  obtain⟨o,ho,hc⟩:=he
  refine wpAny_bind (wpAny_isInstance (T:= "StopIteration") (b:=true) ⟨o,ho,hc⟩ isSubtype_stop ?_)
  exact wpAny_pure (hQ _ _ hk)
 unfold pyNext
 refine wpAny_bind (wpAny_attempt (wpAny_callSpecial?_slot (name:=Str.ofString "__next__") hT F.slot_zip_next
  (wpAny_call_entry F.slot_zip_next hT F.entry_zip_next ?_ (F.args_zip_next_1 _))))
 show wpAny _ _ (field (.ref z) 2 >>= _) _ _ _
 refine wpAny_bind (wpAny_field hz rfl (x:=.bool false) rfl ?_)
 show wpAny _ _ (field (.ref z) 3 >>= _) _ _ _
 refine wpAny_bind (wpAny_field hz rfl (x:=.ref TI) rfl ?_)
 refine wpAny_bind (wpAny_seqItems hTI rfl ?_)
 show wpAny _ _ (Builtin.SmallTypes.ownedTupleIsFree (.ref z) >>= _) _ _ _
 refine wpAny_bind ?_
 unfold Builtin.SmallTypes.ownedTupleIsFree
 refine wpAny_bind (wpAny_field hz rfl (x:=.none) rfl (wpAny_pure ?_))
 simp only[if_true]
 refine wpAny_bind (wpAny_rule ?_)
 refine wpAny_bind (wpAny_field hz rfl (x:=.ref TO) rfl ?_)
 refine wpAny_bind (wpAny_setField_rec hz (by simp) λh₁ vg hs₁=>?_)
 replace vg:IsZip h₁ z TI TO .ellipsis:=vg
 refine wpAny_bind ?_
 simp only[List.zipIdx_cons,List.zipIdx_nil,List.forIn_cons,List.forIn_nil]
 refine wpAny_bind (wpAny_bind (wpAny_onRaise ?_))
 show wpAny _ _ (Builtin.SmallTypes.nextOf (.ref i1) >>= _) _ _ _
 cases hx:xs[i]? with
 |none =>
  refine wpAny_bind (Cp.fin (c:=c) hh (Cp.jc h1 λo e=>hs₁.extBut _ _ D.i1z e) (Cp.kX sc hs₁.extBut cz) hx λh₂ e hs₂ he=>?_)
  obtain⟨oe,P8,hce⟩:=he
  have MZ:IsZip h₂ z TI TO .ellipsis:=hs₂ _ _ D.i1z.symm vg
  have X4:e≠z:=λx=>by subst x;rw[MZ]at P8;cases P8;simp at hce
  refine wpAny_setField_rec MZ (by simp) λh₃ _ nQ=>?_
  exact stop h₃ e _ ⟨oe,nQ.extBut _ _ X4 P8,hce⟩ λk o c1 _ c3 _ x=>nQ.extBut _ _ c1 (hs₂ _ _ c3 (hs₁.extBut _ _ c1 x))
 |some x =>
  have hy:ys[i]? =none:=by rcases hend with h|h;rw[hx]at h;cases h;exact h
  refine wpAny_bind (Cp.item (c:=c) (Cp.jc h1 λo e=>hs₁.extBut _ _ D.i1z e) (Cp.kX sc hs₁.extBut cz) hx λu h₂ tk₂ ru Nc hs₂=>wpAny_pure ?_)
  have xQ:IsPair h₂ TO a b:=hs₂.extBut _ _ D.TOi1 (hs₁.extBut _ _ D.TOz hTO)
  refine wpAny_bind (wpAny_seqItems xQ rfl ?_)
  refine wpAny_bind (wpAny_updateSeq_pair xQ λh₃ A7 nQ=>?_)
  refine wpAny_bind (wpAny_letGo (wpAny_pure ?_))
  refine wpAny_bind (wpAny_bind (wpAny_onRaise ?_))
  show wpAny _ _ (Builtin.SmallTypes.nextOf (.ref i2) >>= _) _ _ _
  refine wpAny_bind (Cp.fin (c:=d) hh (Cp.jc h2 λo e=>nQ.extBut _ _ D.TOi2.symm (hs₂.extBut _ _ D.i12.symm (hs₁.extBut _ _ D.i2z e))) (Cp.kX (Cp.kX (Cp.kX sd hs₁.extBut dz) hs₂.extBut di) nQ.extBut c2) hy λh₄ e vj he=>?_)
  obtain⟨oe,P8,hce⟩:=he
  have MY:IsZip h₄ z TI TO .ellipsis:=vj _ _ D.i2z.symm (nQ.extBut _ _ D.TOz.symm (hs₂.extBut _ _ D.i1z.symm vg))
  have X4:e≠z:=λx=>by subst x;rw[MY]at P8;cases P8;simp at hce
  refine wpAny_setField_rec MY (by simp) λh₅ _ vh=>?_
  exact stop h₅ e _ ⟨oe,vh.extBut _ _ X4 P8,hce⟩ λk o c1 c2 c3 c4 x=>vh.extBut _ _ c1 (vj _ _ c4 (nQ.extBut _ _ c2 (hs₂.extBut _ _ c3 (hs₁.extBut _ _ c1 x))))
def Cp.dQ(t:Tok):Cp->Obj
 | .lst a=>{ cls:=.type "list_iterator",data:=.fields #[.ref a,.int 0 0] }
 | .tup a=>{ cls:=.type "tuple_iterator",data:=.fields #[.ref a,.int 0 0] }
 | .txt x=>{ cls:=.type (strIterType x),data:=.fields #[.str x t,.int 0 0] }
def Cp.value(t:Tok):Cp->Value
 | .lst a=>.ref a
 | .tup a=>.ref a
 | .txt x=>.str x t
theorem Cp.value_of{u:Value}(r:RelV c.val u):∃t,u=c.value t:=by
 cases c with
 |lst a=>exact⟨0,r⟩
 |tup a=>exact⟨0,r⟩
 |txt x=>exact r
theorem Cp.iter{t:Tok}{Q:Value->Shared->Prop}(hs:c.src s.heap xs)(hQ:Q (.ref s.heap.objs.size) { s with heap:=s.heap.push (c.dQ t) }):wpAny (model prog w) A (pyIter (c.value t)) Q E s:=by
 cases c with
 |lst a=>obtain⟨its,_,p⟩:=hs;exact wpAny_pyIter_list p hQ
 |tup a=>obtain⟨its,_,p⟩:=hs;exact wpAny_pyIter_tuple p hQ
 |txt x=>exact wpAny_pyIter_strU hQ
theorem Cp.F9{t:Tok}{h:Heap}{it:Addr}(e:h.get? it=some (c.dQ t)):c.DW h it 0:=by
 cases c with
 |lst a=>exact⟨_,e,rfl,rfl⟩
 |tup a=>exact⟨_,e,rfl,rfl⟩
 |txt x=>exact⟨t,_,e,rfl,rfl⟩
abbrev Ub(h:Heap)(o1:Obj):Heap:=h.push o1
abbrev Ua(h:Heap)(o1 o2:Obj):Heap:=(Ub h o1).push o2
abbrev T9(h:Heap)(o1 o2:Obj):Heap:=(Ua h o1 o2).push { cls:=.type "tuple",data:=.seq #[.ref h.objs.size,.ref (Ub h o1).objs.size] }
abbrev T8(h:Heap)(o1 o2:Obj):Heap:=(T9 h o1 o2).push { cls:=.type "tuple",data:=.seq #[.none,.none] }
abbrev QF(h:Heap)(o1 o2:Obj):Heap:=(T8 h o1 o2).push { cls:=.type "zip",data:=.fields #[.none,.bool false,.bool false,.ref (Ua h o1 o2).objs.size,.ref (T9 h o1 o2).objs.size] }
theorem G6(c d:Cp)(t1 t2:Tok)(xs ys:List V):
  Meets (Builtin.«zip.__new__» ⟨[.type "zip",c.value t1,d.value t2],[]⟩) (λ_ R s=>c.src s.heap xs/\d.src s.heap ys ∧
   R (.ok (.ret (.ref (T8 s.heap (c.dQ t1) (d.dQ t2)).objs.size))) { s with heap:=QF s.heap (c.dQ t1) (d.dQ t2) }) :=
 .of_wp λprog w A R s h=>by
  obtain⟨hp,g,dd,tk,os⟩:=s;obtain⟨hl1,hl2,h⟩:=h
  have hsub:=sub_zip
  have Yn:c.src (Shared.heap ⟨hp,g,dd,tk,os⟩) xs:=hl1
  have Ym:d.src (Shared.heap ⟨hp.push (c.dQ t1),g,dd,tk,os⟩) ys:=Cp.IB hl2 λb o e=>Heap.get?_push_of_some _ e
  wp_walk using Cp.iter (t:=t1) Yn,Cp.iter (t:=t2) Ym
  exact⟨_,rfl,h⟩
theorem Hz{t1 t2:Tok}{Q:Value->Shared->Prop}(sc:c.src s.heap xs)(sd:d.src s.heap ys)
  (h:∀h',IsZip h' (s.heap.objs.size+4) (s.heap.objs.size+2) (s.heap.objs.size+3) .none->IsPair h' (s.heap.objs.size+2) (.ref s.heap.objs.size) (.ref (s.heap.objs.size+1)) →
   IsPair h' (s.heap.objs.size+3) .none .none->c.DW h' s.heap.objs.size 0->d.DW h' (s.heap.objs.size+1) 0->(∀b o,s.heap.get? b=some o->h'.get? b=some o)->Q (.ref (s.heap.objs.size+4)) { s with heap:=h' }) :
  wpAny (model prog w) A (call (.type "zip") [c.value t1,d.value t2]) Q E s:=by
 refine callType_new F.called_zip (by decide) (F.typeCall_zip_2 _ _) (F.newCall_zip_2 _ _) (λobj=>F.args_object_init_3 obj _ _) F.entry_zip_new
  (G6 c d t1 t2 xs ys) ⟨sc,sd,?_⟩
 have z1:(Ub s.heap (c.dQ t1)).objs.size=s.heap.objs.size+1:=Heap.size_push ..
 have z2:(Ua s.heap (c.dQ t1) (d.dQ t2)).objs.size=s.heap.objs.size+2:=by rw[Heap.size_push,z1]
 have z3:(T9 s.heap (c.dQ t1) (d.dQ t2)).objs.size=s.heap.objs.size+3:=by rw[Heap.size_push,z2]
 have z4:(T8 s.heap (c.dQ t1) (d.dQ t2)).objs.size=s.heap.objs.size+4:=by rw[Heap.size_push,z3]
 have it1:(c.dQ t1).isFreed=false:=by cases c<;>rfl
 have it2:(d.dQ t2).isFreed=false:=by cases d<;>rfl
 have g5:(QF s.heap (c.dQ t1) (d.dQ t2)).get? (T8 s.heap (c.dQ t1) (d.dQ t2)).objs.size=some _:=Heap.get?_push_size _ rfl
 have g4:(QF s.heap (c.dQ t1) (d.dQ t2)).get? (T9 s.heap (c.dQ t1) (d.dQ t2)).objs.size=some _:=Heap.get?_push_of_some _ (Heap.get?_push_size _ rfl)
 have g3:(QF s.heap (c.dQ t1) (d.dQ t2)).get? (Ua s.heap (c.dQ t1) (d.dQ t2)).objs.size=some _:=Heap.get?_push_of_some _ (Heap.get?_push_of_some _ (Heap.get?_push_size _ rfl))
 have g2:(QF s.heap (c.dQ t1) (d.dQ t2)).get? (Ub s.heap (c.dQ t1)).objs.size=some _:=Heap.get?_push_of_some _ (Heap.get?_push_of_some _ (Heap.get?_push_of_some _ (Heap.get?_push_size _ it2)))
 have g1:(QF s.heap (c.dQ t1) (d.dQ t2)).get? s.heap.objs.size=some _:=Heap.get?_push_of_some _ (Heap.get?_push_of_some _ (Heap.get?_push_of_some _ (Heap.get?_push_of_some _ (Heap.get?_push_size _ it1))))
 show _/\_
 rw[z2,z3,z4]at g5
 rw[z1,z2]at g3
 rw[z3]at g4
 rw[z1]at g2
 rw[z4]
 exact⟨⟨_,g5,rfl⟩,h _ g5 g3 g4 (Cp.F9 g1) (Cp.F9 g2) λb o x =>
  Heap.get?_push_of_some _ (Heap.get?_push_of_some _ (Heap.get?_push_of_some _ (Heap.get?_push_of_some _ (Heap.get?_push_of_some _ x))))⟩
end
section
variable{X:Cx}{pins:List (Addr×Obj)}{σ:St}{H:Hp}{s:Shared}
theorem Inv.moved{h':Heap}{t':Nat}{ch:List Addr}(I:Inv X pins σ H s)(k:∀b o,b∉ch->s.heap.get? b=some o->h'.get? b=some o)(hf:∀b∈ch,pK X pins H b)(ht:s.toks<=t':=by first|exact Nat.le_refl _|exact Nat.le_succ _|assumption|omega):Inv X pins σ H { s with heap:=h',toks:=t' }:=by
 have MT:∀b u,H b=some u->b∉ch:=λb u e z=>by rw[(hf b z).1]at e;cases e
 refine I.step (g':=s.gens) (d':=s.drawn) (ch:=ch) (λb hb=>?_) (λb o _ _ hc e _=>k b o hc e) (λb o _ _ hc e _=>⟨o.slots,k b o hc e⟩) (λ_ _ _ _ n=>n)
  (λb o hc e=>⟨o,k b o hc e⟩) (λ_ _ e=>e) (λ_ _ _ e=>e) (λb ps e=>⟨#[],by rw[e];simp⟩) (λm hm=>?_) (λb u e=>?_) I.bare (Nat.le_trans I.up ht)
 ·obtain⟨_,h1,_,h3,h4,h5⟩:=hf b hb
  exact⟨h3,h1,h4,h5⟩
 ·obtain⟨o,es,ep,ho,r⟩:=hm
  exact⟨o,es,ep,k _ o (λz=>(hf _ z).2.1 rfl) ho,r⟩
 ·refine(I.hok b u e).stay (λc v hc q=>k c v ?_ q) (λ_ q=>q) λ_ _ q=>q
  rcases hc with z|z
  ·rw[z];exact MT b u e
  ·exact MT c _ z
theorem Inv.MD{a:Addr}{o:HO}(I:Inv X pins σ H s)(hf:pK X pins H a)(new:bQ X.prog X.w (upd H a o) s.heap a o):Inv X pins σ (upd H a o) s:=by
 have hn:=hf.1
 have e:s={ s with heap:=s.heap,gens:=s.gens,drawn:=s.drawn,toks:=s.toks }:=rfl
 rw[e]
 refine I.step (ch:=[a]) (λb hb=>?_) (λ_ _ _ _ _ e _=>e) (λ_ o _ _ _ e _=>⟨o.slots,e⟩) (λb _ hc _ n=>?_)
  (λ_ o _ e=>⟨o,e⟩) (λb _ e=>?_) (λb _ _ e=>?_) (λb ps e=>⟨#[],?_⟩) (λ_ hm=>hm) (λb u q=>?_) I.bare I.up
 ·have eb:b=a:=by simpa using hb
  subst eb
  obtain⟨_,h1,_,h3,h4,h5⟩:=hf
  exact⟨h3,h1,h4,h5⟩
 ·rw[ao (λz=>hc (by simp[z]))];exact n
 ·rw[ao (aP e hn)];exact e
 ·rw[ao (aP e hn)];exact e
 ·rw[ao (aP e hn),e];simp
 ·by_cases hb:b=a
  ·subst hb;rw[ah]at q;cases q;exact new
  ·rw[ao hb]at q
   exact(I.hok b u q).stay (λc v _ r=>r) (λc r=>by rw[ao (aP r hn)];exact r) λc xs r=>by rw[ao (aP r hn)];exact r
def TU(K:PySem.W.Frag)(c d:Cp):It :=
 ⟨λi H=>∃xs ys x y,c.at K H xs/\d.at K H ys/\xs[i]? =some x/\ys[i]? =some y,
  λi H v H'=>∃p x y,v= .ref p/\H p=none/\H'=upd H p (.tup [x,y])/\∀xs ys,c.at K H xs->d.at K H ys->xs[i]? =some x/\ys[i]? =some y,
  λi H=>∃xs ys,c.at K H xs/\d.at K H ys/\(xs.length<=i\/ys.length<=i)⟩
theorem Ip{P:Program}{w:World}{K:PySem.W.Frag}{elts:List Expr}{k:Nat}{pos:Pos}{c d:Cp}{z TI TO i1 i2:Addr}(D:x6 z TI TO i1 i2):
  Turn P w K (.Tuple elts k pos) (TU K c d) [z,TI,TO,i1,i2] z (λi h=>Gw h z TI TO i1 i2 c d .none i) where
 mem:=by simp
 obj:=λi h Z b hb=>by
  obtain⟨hz,hTI,⟨a,b',hTO⟩,h1,h2,_,_⟩:=Z
  obtain⟨WI,T1,v1,hi1,_,d1,_⟩:=Cp.j8 h1
  obtain⟨Zk,T2,v2,hi2,_,d2,_⟩:=Cp.j8 h2
  simp only[List.mem_cons,List.not_mem_nil,or_false]at hb
  rcases hb with rfl|rfl|rfl|rfl|rfl
  ·exact⟨_,hz,λv q=>by cases q⟩
  ·exact⟨_,hTI,λv q=>by cases q⟩
  ·exact⟨_,hTO,λv q=>by cases q⟩
  ·exact⟨_,hi1,λv q=>by rw[d1]at q;cases q⟩
  ·exact⟨_,hi2,λv q=>by rw[d2]at q;cases q⟩
 keep:=λi h h' Z kp=>by
  obtain⟨hz,hTI,⟨a,b',hTO⟩,h1,h2,o1,o2⟩:=Z
  exact⟨kp z (by simp) _ hz,kp TI (by simp) _ hTI,⟨a,b',kp TO (by simp) _ hTO⟩,Cp.jc h1 λo e=>kp i1 (by simp) o e,Cp.jc h2 λo e=>kp i2 (by simp) o e,o1,o2⟩
 item:=by
  intro X hP hw hK hc i pins s σ H E I hf Z hg
  subst hP hw hK
  obtain⟨xs,ys,x,y,hx,hy,ex,ey⟩:=hg
  have sc:=Cp.oQ I hx
  have sd:=Cp.oQ I hy
  refine TK.bY (Nat.le_refl s.toks) (Ib D Z sc sd ex ey λu v h' tk ru rv Z' hp kk hup=>⟨_,rfl,?_⟩)
  refine wpAny_letOwnedTupleGo_zip Z'.zz λh'' Xn sb=>?_
  have hnz:s.heap.objs.size≠z:=Nat.ne_of_gt (Heap.lt_size Z.zz)
  have k2:∀b o,b∉[z,TI,TO,i1,i2]->s.heap.get? b=some o->h''.get? b=some o:=λb o hb e=>by
   simp only[List.mem_cons,List.not_mem_nil,or_false,not_or]at hb
   exact sb.extBut _ _ hb.1 (kk b o hb.1 hb.2.2.1 hb.2.2.2.1 hb.2.2.2.2 e)
  have I1:Inv X pins σ H { s with heap:=h'',toks:=tk }:=I.moved k2 hf
  have hn:H s.heap.objs.size=none:=I.fresh
  have Yy:pK X pins H s.heap.objs.size:=I.vQ (Nat.le_refl _) hn
  have hp2:IsPair h'' s.heap.objs.size u v:=sb.extBut _ _ hnz hp
  have I2:Inv X pins σ (upd H s.heap.objs.size (.tup [x,y])) { s with heap:=h'',toks:=tk } :=
   I1.MD Yy ⟨by show 2<=sizeLine;decide,[u,v],.cons ru (.cons rv .nil),⟨_,hp2,rfl,_,rfl⟩⟩
  refine⟨.ref s.heap.objs.size,_,I2,rfl,⟨_,x,y,rfl,hn,rfl,λxs' ys' hx' hy'=>?_⟩,?_,λb hb=>?_⟩
  ·rw[Cp.E8 I hx' hx,Cp.E8 I hy' hy];exact⟨ex,ey⟩
  ·obtain⟨_,hTI,⟨a,b',hTO⟩,h1,h2,o1,o2⟩:=Z'
   exact⟨Xn,sb.extBut _ _ D.TIz hTI,⟨a,b',sb.extBut _ _ D.TOz hTO⟩,Cp.jc h1 λo e=>sb.extBut _ _ D.i1z e,Cp.jc h2 λo e=>sb.extBut _ _ D.i2z e,o1,o2⟩
  ·have lt:b<s.heap.objs.size:=by
    obtain⟨hz,hTI,⟨a,b',hTO⟩,h1,h2,_,_⟩:=Z
    obtain⟨WI,T1,v1,hi1,_,d1,_⟩:=Cp.j8 h1
    obtain⟨Zk,T2,v2,hi2,_,d2,_⟩:=Cp.j8 h2
    simp only[List.mem_cons,List.not_mem_nil,or_false]at hb
    rcases hb with rfl|rfl|rfl|rfl|rfl
    ·exact Heap.lt_size hz
    ·exact Heap.lt_size hTI
    ·exact Heap.lt_size hTO
    ·exact Heap.lt_size hi1
    ·exact Heap.lt_size hi2
   rw[ao (Nat.ne_of_lt lt)]
   exact(hf b hb).1
 done:=by
  intro X hP hw hK hc i pins s σ H E I hf Z hg
  subst hP hw hK
  obtain⟨xs,ys,hx,hy,he⟩:=hg
  refine TK.bY (Nat.le_refl s.toks) (K5 (I.ok.hd hc) D Z (Cp.oQ I hx) (Cp.oQ I hy) (he.imp (λq=>List.getElem?_eq_none q) λq=>List.getElem?_eq_none q) λh' tk kk hup=>⟨rfl,?_⟩)
  exact I.moved (λb o hb e=>by
   simp only[List.mem_cons,List.not_mem_nil,or_false,not_or]at hb
   exact kk b o hb.1 hb.2.2.1 hb.2.2.2.1 hb.2.2.2.2 e) hf
 self:=λ_ _ _ _ _ Z h=>wpAny_pyIter_zip Z.zz h
theorem DZ(n:Nat):x6 (n+4) (n+2) (n+3) n (n+1):=by
 have ne:∀{a b:Nat},a<b->a≠b:=λh=>Nat.ne_of_lt h
 exact⟨ne (by omega),ne (by omega),ne (by omega),ne (by omega),ne (by omega),(ne (by omega)).symm,(ne (by omega)).symm,(ne (by omega)).symm,(ne (by omega)).symm,ne (by omega)⟩
def Xh(K:PySem.W.Frag)(ta:TA):TI:=λσ H R=>ta σ H λvs H1=>∃c d xs ys,vs=[c.val,d.val]/\c.at K H1 xs/\d.at K H1 ys/\R (TU K c d) H1
theorem Az {a b:Expr} {ta:TA} {p pos:Pos} {elts:List Expr} {k:Nat} {tpos:Pos} (hc:X.calm=true) (hg:Gl X "zip") (hm:X.mg "zip" =none) (ha:PA X [a,b] ta)
  (hs:starEach [a,b] X.env=[(false,eval a X.env),(false,eval b X.env)]:=by rfl) (hs2:starEach [b] X.env=[(false,eval b X.env)]:=by rfl) :
  PI X (.Tuple elts k tpos) (.Call (.Name "zip" p) [a,b] [] pos) (Xh X.K ta):=by
 intro pins s σ H R I h
 refine Call_ (qi I hg hm boot_zip (PyProof.Rows.callWith_type1 (fh (ha pos pins s σ H _ I h) λus s1 ⟨vs,H1,I1,r1,q1⟩=>?_) (by rw[hs,hs2]) (by rw[hs2];rfl)))
 obtain⟨c,d,xs,ys,e,hx,hy,q⟩:=q1
 subst e
 obtain⟨u,v,rfl,ru,rv⟩:=vals2 r1
 obtain⟨t1,rfl⟩:=Cp.value_of ru
 obtain⟨t2,rfl⟩:=Cp.value_of rv
 have sc:=Cp.oQ I1 hx
 have sd:=Cp.oQ I1 hy
 refine Hz sc sd λh' hz hTI hTO h1 h2 kk=>wpAny_pyIter_zip hz ?_
 have D:x6 (s1.heap.objs.size+4) (s1.heap.objs.size+2) (s1.heap.objs.size+3) s1.heap.objs.size (s1.heap.objs.size+1) :=
  DZ _
 refine⟨_,[s1.heap.objs.size+4,s1.heap.objs.size+2,s1.heap.objs.size+3,s1.heap.objs.size,s1.heap.objs.size+1],_,_,H1,rfl,I1.kept (t':=s1.toks) kk,Ip D,
  ⟨hz,hTI,⟨_,_,hTO⟩,h1,h2,Cp.F3 sc (Nat.le_add_right _ 3),Cp.F3 sd (Nat.le_add_right _ 3)⟩,λb hb=>?_,q⟩
 have le:s1.heap.objs.size<=b:=by
  simp only[List.mem_cons,List.not_mem_nil,or_false]at hb
  rcases hb with rfl|rfl|rfl|rfl|rfl
  ·exact Nat.le_add_right _ _
  ·exact Nat.le_add_right _ _
  ·exact Nat.le_add_right _ _
  ·exact Nat.le_refl _
  ·exact Nat.le_add_right _ _
 exact I1.vQ le (I1.hok.fresh le)
end
end L2
namespace L2
open PySem PySem.Spec PyProof.Rows
def Its(x:Str):It:=⟨λi _=>i<x.cps.size,λi H v H'=>H'=H/\∃k,x.cps[i]? =some k/\v= .str ⟨#[k]⟩,λi _=>x.cps.size<=i⟩
section
variable{prog:Program}{w:World}{A:Around}{E:Value->Shared->Prop}{s:Shared}
theorem pF{it:Addr}{x:Str}{t:Tok}{i k:Nat}{Q:Option Value->Shared->Prop}(hit:s.heap.IsStrIter it (strIterType x) x t i)(hx:x.cps[i]? =some k)
  (hQ:∀h',h'.IsStrIter it (strIterType x) x t (i+1)->Heap.SameBut it s.heap h'->Q (some (.str ⟨#[k]⟩ s.toks)) { s with heap:=h',toks:=s.toks+1 }):wpAny (model prog w) A (pyNext (.ref it)) Q E s:=by
 unfold strIterType at hit hQ
 by_cases ha:(x.cps.all (·<128))=true
 ·rw[if_pos ha]at hit hQ
  exact wpAny_pyNext_ascii_item hit hx hQ
 ·rw[if_neg ha]at hit hQ
  exact wpAny_pyNext_wide_item hit hx hQ
theorem pV{it:Addr}{x:Str}{t:Tok}{i:Nat}{Q:Option Value->Shared->Prop}(hh:A.handled=none)(hit:s.heap.IsStrIter it (strIterType x) x t i)(hx:x.cps[i]? =none)
  (hQ:∀h',Heap.ExtBut it s.heap h'->Q none { s with heap:=h' }):wpAny (model prog w) A (pyNext (.ref it)) Q E s:=by
 unfold strIterType at hit
 by_cases ha:(x.cps.all (·<128))=true
 ·rw[if_pos ha]at hit
  exact wpAny_pyNext_ascii_end hh hit hx hQ
 ·rw[if_neg ha]at hit
  exact wpAny_pyNext_wide_end hh hit hx hQ
theorem pW{it:Addr}{x:Str}{t:Tok}{i:Nat}{Q:Value->Shared->Prop}(hit:s.heap.IsStrIter it (strIterType x) x t i)(h:Q (.ref it) s):wpAny (model prog w) A (pyIter (.ref it)) Q E s:=by
 unfold strIterType at hit
 by_cases ha:(x.cps.all (·<128))=true
 ·rw[if_pos ha]at hit
  exact wpAny_pyIter_striter_ascii hit h
 ·rw[if_neg ha]at hit
  exact wpAny_pyIter_striter_wide hit h
end
theorem um(x:Str):["enumerate","zip","dict_itemiterator","dict_reverseitemiterator","odict_iterator","itertools.zip_longest","itertools.pairwise"].contains (strIterType x)=false:=by
 unfold strIterType
 split<;>decide
theorem B0{P:Program}{w:World}{K:PySem.W.Frag}{tg:Expr}(x:Str)(t:Tok)(it:Addr):Turn P w K tg (Its x) [it] it (λi h=>h.IsStrIter it (strIterType x) x t i) where
 mem:=by simp
 obj:=λi h st b hb=>by
  have e:b=it:=by simpa using hb
  subst e
  obtain⟨o,e,c,d⟩:=st
  exact⟨o,e,λv z=>by rw[d]at z;cases z⟩
 keep:=λi h h' st k=>by
  obtain⟨o,e,r⟩:=st
  exact⟨o,k it (by simp) o e,r⟩
 item:=by
  intro X hP hw hK hc i pins s σ H E I hf st hg
  subst hP hw hK
  have hi:i<x.cps.size:=hg
  obtain⟨f0,f1,f2,f3,f4,f5⟩:=hf it (by simp)
  refine pF st (k:=x.cps[i]) (by simp[hi]) λh' st' sb=>?_
  have I1:Inv X pins σ H { s with heap:=h',toks:=s.toks+1 }:=I.turned (λb o hb e=>(sb.2 b hb).trans e) f0 f1 f3 f4 f5
  obtain⟨o,e,c,d⟩:=id st'
  exact⟨_,rfl,Df (s:={ s with heap:=h',toks:=s.toks+1 }) e c d (um x) ⟨.str ⟨#[x.cps[i]]⟩,H,I1,⟨_,rfl⟩,⟨rfl,_,by simp[hi],rfl⟩,st',λb hb=>(hf b hb).1⟩⟩
 done:=by
  intro X hP hw hK hc i pins s σ H E I hf st hg
  subst hP hw hK
  have hi:x.cps.size<=i:=hg
  obtain⟨f0,f1,f2,f3,f4,f5⟩:=hf it (by simp)
  exact pV (I.ok.hd hc) st (by simp[hi]) λh' eb=>⟨rfl,I.turned (t':=s.toks) (λb o hb e=>eb b o hb e) f0 f1 f3 f4 f5⟩
 self:=λ_ _ _ _ _ st h=>pW st h
section
variable{X:Cx}{tg:Expr}
def Xi(tl:TE):TI:=λσ H R=>tl σ H λv H1=>∃x,v= .str x/\R (Its x) H1
theorem Ja{l:Expr}{tl:TE}(hl:PE X l tl):PI X tg l (Xi tl):=by
 intro pins s σ H R I h
 refine fh (hl pins s σ H _ I h) λv s1 ⟨y,H1,I1,r1,q1⟩=>?_
 obtain⟨x,e,q⟩:=q1
 subst e
 obtain⟨t,rfl⟩:=r1
 refine wpAny_pyIter_strU ?_
 refine⟨s1.heap.objs.size,[s1.heap.objs.size],_,_,H1,rfl,I1.kept (t':=s1.toks) λb o e=>Heap.get?_push_of_some _ e,B0 x t _,⟨_,Heap.get?_push_size _ rfl,rfl,rfl⟩,λb hb=>?_,q⟩
 have e:b=s1.heap.objs.size:=by simpa using hb
 subst e
 exact I1.vQ (Nat.le_refl _) (I1.hok.fresh (Nat.le_refl _))
theorem Gi{K:PySem.W.Frag}{c d:Cp}{xs ys:List V}{g:TG}{tb:TS}{D:Ends}{σ:St}{H:Hp}(Pv:Nat->St->Hp->Prop)(h0:Pv 0 σ H)(hl:∀i σ H,i<=min xs.length ys.length->Pv i σ H->c.at K H xs/\d.at K H ys)
  (hs:∀i x y p σ H,xs[i]? =some x->ys[i]? =some y->H p=none->Pv i σ H->g (.ref p) σ (upd H p (.tup [x,y])) λσ2 H2=>tb { D with nx:=Pv (i+1),ct:=Pv (i+1),bk:=D.nx } σ2 H2)
  (hd:∀ σ H,Pv (min xs.length ys.length) σ H->D.nx σ H) :
  ∃W:Nat->Nat->St->Hp->Prop,(∃m,W 0 m σ H)/\∀i m σ H,W i m σ H →
   ((TU K c d).stop i H/\D.nx σ H)\/((TU K c d).go i H/\∃N:St->Hp->Prop,(∀ σ' H',N σ' H'->∃m',m'<m/\W (i+1) m' σ' H')/\∀y H',(TU K c d).Ad i H y H'->g y σ H' λσ2 H2=>tb { D with nx:=N,ct:=N,bk:=D.nx } σ2 H2):=by
 refine⟨λi m σ H=>m=min xs.length ys.length-i/\i<=min xs.length ys.length/\Pv i σ H,⟨min xs.length ys.length,by simp,Nat.zero_le _,h0⟩,?_⟩
 rintro i m σ H ⟨rfl,hi,p⟩
 obtain⟨zx,zy⟩:=hl i σ H hi p
 by_cases hlt:i<min xs.length ys.length
 ·have h1:i<xs.length:=by omega
  have h2:i<ys.length:=by omega
  refine .inr ⟨⟨xs,ys,xs[i],ys[i],zx,zy,by simp[h1],by simp[h2]⟩,Pv (i+1),λσ' H' p'=>⟨min xs.length ys.length-(i+1),by omega,rfl,hlt,p'⟩,λv H' q=>?_⟩
  obtain⟨a,x,y,rfl,ha,rfl,e⟩:=q
  obtain⟨e1,e2⟩:=e xs ys zx zy
  exact hs i x y a σ H e1 e2 ha p
 ·have e:i=min xs.length ys.length:=by omega
  subst e
  refine .inl ⟨⟨xs,ys,zx,zy,?_⟩,hd σ H p⟩
  rcases Nat.le_total xs.length ys.length with q|q
  ·exact .inl (by rw[Nat.min_eq_left q];exact Nat.le_refl _)
  ·exact .inr (by rw[Nat.min_eq_right q];exact Nat.le_refl _)
end
end L2
namespace L2
open PySem PySem.Spec PyProof.Rows
def Cp.adr:Cp->List Addr
 | .lst a=>[a]
 | .tup a=>[a]
 | .txt _=>[]
theorem Cp.Ly{c:Cp}{b:Addr}(h:c.off b):b∉c.adr:=by
 cases c with
 |lst a =>
  intro z
  have q:b=a:=by simpa[Cp.adr]using z
  exact h q.symm
 |tup a =>
  intro z
  have q:b=a:=by simpa[Cp.adr]using z
  exact h q.symm
 |txt x=>intro z;cases z
theorem Cp.Li{c:Cp}{xs:List V}{h h':Heap}(hs:c.src h xs)(k:∀b∈c.adr,∀o,h.get? b=some o->h'.get? b=some o):c.src h' xs:=by
 cases c with
 |lst a=>obtain⟨its,r,o,ho,q⟩:=hs;exact⟨its,r,o,k a (by simp[Cp.adr]) _ ho,q⟩
 |tup a=>obtain⟨its,r,o,ho,q⟩:=hs;exact⟨its,r,o,k a (by simp[Cp.adr]) _ ho,q⟩
 |txt x=>exact hs
theorem Cp.draws{prog:Program}{w:World}{A:Around}{c:Cp}{xs:List V}(hh:A.handled=none)(it:Addr):
  Draws prog w A it (it::c.adr) xs.length (λi v=>∃x,xs[i]? =some x/\RelV x v) (λi h=>c.DW h it i/\c.src h xs) where
 live:=λi h st=>by
  obtain⟨o,_,_,ho,_⟩:=Cp.j8 st.1
  exact⟨o,ho⟩
 frame:=λi h h' st k=>⟨Cp.jc st.1 λo e=>k it (by simp) o e,Cp.Li st.2 λb hb o e=>k b (List.mem_cons_of_mem _ hb) o e⟩
 item:=λi s Q E hi st hQ=>by
  obtain⟨o,T,_,ho,hc,_,n1,n2⟩:=Cp.j8 st.1
  have off:c.off it:=Cp.nX st.2 ho hc n1 n2
  refine Cp.item st.1 st.2 (x:=xs[i]) (by simp[hi]) λu h' tk ru q sb=>?_
  exact hQ u h' tk ⟨_,by simp[hi],ru⟩ ⟨q,Cp.kX st.2 sb.extBut off⟩ sb
 done:=λs Q E st hE=>Cp.fin hh st.1 st.2 (by simp) hE
def TY(K:PySem.W.Frag)(c:Cp):It :=
 ⟨λi H=>∃xs x,c.at K H xs/\xs[i]? =some x,
  λi H v H'=>∃p x,v= .ref p/\H p=none/\H'=upd H p (.tup [.int (i:Int),x])/\∀xs,c.at K H xs->xs[i]? =some x,
  λi H=>∃xs,c.at K H xs/\xs.length<=i⟩
theorem GI{P:Program}{w:World}{K:PySem.W.Frag}{elts:List Expr}{k:Nat}{pos:Pos}{c:Cp}{e it:Addr}(hei:e≠it):
  Turn P w K (.Tuple elts k pos) (TY K c) [e,it] e (λi h=>(∃old,IsEnum h e it i old)/\c.DW h it i) where
 mem:=by simp
 obj:=λi h Z b hb=>by
  obtain⟨⟨old,he⟩,hi⟩:=Z
  obtain⟨o,_,vs,ho,_,d,_⟩:=Cp.j8 hi
  simp only[List.mem_cons,List.not_mem_nil,or_false]at hb
  rcases hb with rfl|rfl
  ·exact⟨_,he,λv q=>by cases q⟩
  ·exact⟨_,ho,λv q=>by rw[d]at q;cases q⟩
 keep:=λi h h' Z kp=>by
  obtain⟨⟨old,he⟩,hi⟩:=Z
  exact⟨⟨old,kp e (by simp) _ he⟩,Cp.jc hi λo q=>kp it (by simp) o q⟩
 item:=by
  intro X hP hw hK hc i pins s σ H E I hf Z hg
  subst hP hw hK
  obtain⟨xs,x,hx,ex⟩:=hg
  obtain⟨⟨old,he⟩,hi⟩:=id Z
  have sc:=Cp.oQ I hx
  have WJ:c.off e:=Cp.nX sc he rfl (by decide) (by decide)
  have hlt:i<xs.length:=(List.getElem?_eq_some_iff.mp ex).1
  have hh:X.A.in1.handled=none:=I.ok.hd hc
  refine TK.bY (Nat.le_refl s.toks) (wpAny_pyNext_enum_itemD (Cp.draws (c:=c) (xs:=xs) hh it) he ⟨hi,sc⟩ hlt hei (λz=>?_) λu h' tk hP ho st' hT hsz kk hup=>⟨_,rfl,?_⟩)
  ·rcases List.mem_cons.mp z with q|q
   ·exact hei q
   ·exact Cp.Ly WJ q
  ·obtain⟨x',ex',ru⟩:=hP
   rw[ex]at ex'
   cases ex'
   refine wpAny_letOwnedTupleGo_enum ho λh'' X7 sb=>?_
   have hne:s.heap.objs.size≠e:=Nat.ne_of_gt (Heap.lt_size he)
   have k2:∀b o,b∉[e,it]->s.heap.get? b=some o->h''.get? b=some o:=λb o hb q=>by
    simp only[List.mem_cons,List.not_mem_nil,or_false,not_or]at hb
    exact sb.extBut _ _ hb.1 (kk b o hb.1 hb.2 q)
   have I1:Inv X pins σ H { s with heap:=h'',toks:=tk+1 }:=I.moved k2 hf (by have z:s.toks<=tk+1:=hup;exact z)
   have hn:H s.heap.objs.size=none:=I.fresh
   have Yy:pK X pins H s.heap.objs.size:=I.vQ (Nat.le_refl _) hn
   have hp2:h''.get? s.heap.objs.size=some { cls:=.type "tuple",data:=.seq #[.int i tk,u] }:=sb.extBut _ _ hne hT
   have I2:Inv X pins σ (upd H s.heap.objs.size (.tup [.int (i:Int),x])) { s with heap:=h'',toks:=tk+1 } :=
    I1.MD Yy ⟨by show 2<=sizeLine;decide,[.int i tk,u],.cons ⟨_,rfl⟩ (.cons ru .nil),⟨_,hp2,rfl,_,rfl⟩⟩
   refine⟨.ref s.heap.objs.size,_,I2,rfl,⟨_,x,rfl,hn,rfl,λxs' hx'=>?_⟩,⟨⟨_,X7⟩,Cp.jc st'.1 λo q=>sb.extBut _ _ (Ne.symm hei) q⟩,λb hb=>?_⟩
   ·rw[Cp.E8 I hx' hx];exact ex
   ·obtain⟨o,_,vs,hoi,_⟩:=Cp.j8 hi
    have lt:b<s.heap.objs.size:=by
     have hb':=hb
     simp only[List.mem_cons,List.not_mem_nil,or_false]at hb'
     rcases hb' with rfl|rfl
     ·exact Heap.lt_size he
     ·exact Heap.lt_size hoi
    rw[ao (Nat.ne_of_lt lt)]
    exact(hf b hb).1
 done:=by
  intro X hP hw hK hc i pins s σ H E I hf Z hg
  subst hP hw hK
  obtain⟨xs,hx,hle⟩:=hg
  obtain⟨⟨old,he⟩,hi⟩:=Z
  have hh:X.A.in1.handled=none:=I.ok.hd hc
  have hT:s.TypeIs (.ref e) "enumerate" :=⟨_,he,rfl⟩
  unfold pyNext
  refine wpAny_bind (wpAny_attempt (wpAny_callSpecial?_slot (name:=Str.ofString "__next__") hT F.slot_enumerate_next
   (wpAny_call_entry F.slot_enumerate_next hT F.entry_enumerate_next ?_ (F.args_enumerate_next_1 _))))
  show wpAny _ _ (field (.ref e) 2 >>= _) _ _ _
  refine wpAny_bind (wpAny_field he rfl (x:=.ref it) rfl ?_)
  refine wpAny_bind (Cp.fin hh hi (Cp.oQ I hx) (List.getElem?_eq_none hle) λh' y eb hy=>?_)
  obtain⟨o,ho,hcl⟩:=hy
  refine wpAny_bind (wpAny_isInstance (T:= "StopIteration") (b:=true) ⟨o,ho,hcl⟩ isSubtype_stop ?_)
  refine wpAny_pure ⟨rfl,I.moved (t':=s.toks) (ch:=[e,it]) (λb o hb q=>eb b o ?_ q) hf⟩
  simp only[List.mem_cons,List.not_mem_nil,or_false,not_or]at hb
  exact hb.2
 self:=λ_ _ _ _ _ Z h=>by
  obtain⟨⟨old,he⟩,_⟩:=Z
  exact wpAny_pyIter_enum he h
section
variable{prog:Program}{w:World}{A:Around}{E:Value->Shared->Prop}{s:Shared}
set_option maxHeartbeats 1000000 in
theorem xG(l:Addr)(items:Array Value)(n:Nat)(dct:Option Addr)(sl:Array (Option Value)):
  Meets (Builtin.«enumerate.__new__» ⟨[.type "enumerate",.ref l],[]⟩) (λ_ R s=>s.heap.get? l=some { cls:=.type "tuple",dict:=dct,data:=.seq items n,slots:=sl } ∧
   R (.ok (.ret (.ref (s.heap.push { cls:=.type "tuple_iterator",data:=.fields #[.ref l,.int 0 0] }).objs.size)))
    { s with heap:=(s.heap.push { cls:=.type "tuple_iterator",data:=.fields #[.ref l,.int 0 0] }).push { cls:=.type "enumerate",data:=.fields #[.none,.bool false,.ref s.heap.objs.size,rawInt 0,.none,.none] } }) :=
 .of_wp λprog w A R s h=>by
  obtain⟨hp,g,d,tk,os⟩:=s;obtain⟨hl,h⟩:=h
  have hsub:=sub_enumerate
  have hL:Heap.IsTuple (Shared.heap ⟨hp,g,d,tk,os⟩) l items:=⟨_,hl,rfl,n,rfl⟩
  wp_walk using AutoSeq1.wpAny_loadPart' hl
  refine wpAny_stack_any λst=>wpAny_pure ?_
  split
  ·rename_i c _ _ _ _ _
   cases (c==Value.type "enumerate")
   ·wp_walk using AutoSeq1.wpAny_loadPart' hl,wpAny_pyIter_tuple hL
    exact⟨_,rfl,h⟩
   ·wp_walk using AutoSeq1.wpAny_loadPart' hl,wpAny_pyIter_tuple hL
    exact⟨_,rfl,h⟩
  ·wp_walk using AutoSeq1.wpAny_loadPart' hl,wpAny_pyIter_tuple hL
   exact⟨_,rfl,h⟩
theorem yS{l:Addr}{items:Array Value}{Q:Value->Shared->Prop}(hL:s.heap.IsTuple l items)
  (h:∀h',IsEnum h' (s.heap.objs.size+1) s.heap.objs.size 0 .none->h'.IsTupleIter s.heap.objs.size l 0 →
   (∀b o,s.heap.get? b=some o->h'.get? b=some o)->Q (.ref (s.heap.objs.size+1)) { s with heap:=h' }) :
  wpAny (model prog w) A (call (.type "enumerate") [.ref l]) Q E s:=by
 obtain⟨⟨c,dct,dt,sl⟩,hl,hc,n,hd⟩:=hL
 replace hc:c= .type "tuple" :=hc
 replace hd:dt= .seq items n:=hd
 subst hc hd
 refine callType_new F.called_enumerate (by decide) (F.typeCall_enumerate_1 _) (F.newCall_enumerate_1 _) (λobj=>F.args_object_init_2 obj _) F.entry_enumerate_new
  (xG l items n dct sl) ⟨hl,?_⟩
 have hz:(s.heap.push { cls:=.type "tuple_iterator",data:=.fields #[.ref l,.int 0 0] }).objs.size=s.heap.objs.size+1:=Heap.size_push ..
 show _/\_
 rw[hz]
 have he:IsEnum ((s.heap.push { cls:=.type "tuple_iterator",data:=.fields #[.ref l,.int 0 0] }).push
   { cls:=.type "enumerate",data:=.fields #[.none,.bool false,.ref s.heap.objs.size,rawInt 0,.none,.none] }) (s.heap.objs.size+1) s.heap.objs.size 0 .none:=by
  have:=Heap.get?_push_size (s.heap.push { cls:=.type "tuple_iterator",data:=.fields #[.ref l,.int 0 0] })
   (o:={ cls:=.type "enumerate",data:=.fields #[.none,.bool false,.ref s.heap.objs.size,rawInt 0,.none,.none] }) rfl
  rw[hz]at this;exact this
 exact⟨⟨_,he,rfl⟩,h _ he ⟨_,Heap.get?_push_of_some _ (Heap.get?_push_size _ rfl),rfl,rfl⟩ λb o x=>Heap.get?_push_of_some _ (Heap.get?_push_of_some _ x)⟩
theorem E7{c:Cp}{xs:List V}{t:Tok}{Q:Value->Shared->Prop}(sc:c.src s.heap xs)
  (h:∀h',IsEnum h' (s.heap.objs.size+1) s.heap.objs.size 0 .none->c.DW h' s.heap.objs.size 0->(∀b o,s.heap.get? b=some o->h'.get? b=some o)->Q (.ref (s.heap.objs.size+1)) { s with heap:=h' }) :
  wpAny (model prog w) A (call (.type "enumerate") [c.value t]) Q E s:=by
 cases c with
 |lst a=>obtain⟨its,_,p⟩:=sc;exact call_enumerate_list p λh' a b _ k=>h h' a b k
 |tup a=>obtain⟨its,_,p⟩:=sc;exact yS p λh' a b k=>h h' a b k
 |txt x=>exact call_enumerate_str λh' a b _ k=>h h' a ⟨t,b⟩ k
end
section
variable{X:Cx}
def Sw(K:PySem.W.Frag)(ta:TA):TI:=λσ H R=>ta σ H λvs H1=>∃c xs,vs=[c.val]/\c.at K H1 xs/\R (TY K c) H1
theorem FY {a:Expr} {ta:TA} {p pos:Pos} {elts:List Expr} {k:Nat} {tpos:Pos} (hg:Gl X "enumerate") (hm:X.mg "enumerate" =none) (ha:PA X [a] ta)
  (hs:starEach [a] X.env=[(false,eval a X.env)]:=by rfl):PI X (.Tuple elts k tpos) (.Call (.Name "enumerate" p) [a] [] pos) (Sw X.K ta):=by
 intro pins s σ H R I h
 refine Call_ (qi I hg hm boot_enumerate (PyProof.Rows.callWith_type1 (fh (ha pos pins s σ H _ I h) λus s1 ⟨vs,H1,I1,r1,q1⟩=>?_) hs rfl))
 obtain⟨c,xs,e,hx,q⟩:=q1
 subst e
 obtain⟨u,rfl,ru⟩:=vals1 r1
 obtain⟨t,rfl⟩:=Cp.value_of ru
 have sc:=Cp.oQ I1 hx
 refine E7 sc λh' he hi kk=>wpAny_pyIter_enum he ?_
 have hei:s1.heap.objs.size+1≠s1.heap.objs.size:=Nat.ne_of_gt (Nat.lt_succ_self _)
 refine⟨_,[s1.heap.objs.size+1,s1.heap.objs.size],_,_,H1,rfl,I1.kept (t':=s1.toks) kk,GI hei,⟨⟨_,he⟩,hi⟩,λb hb=>?_,q⟩
 have le:s1.heap.objs.size<=b:=by
  simp only[List.mem_cons,List.not_mem_nil,or_false]at hb
  rcases hb with rfl|rfl
  ·exact Nat.le_add_right _ _
  ·exact Nat.le_refl _
 exact I1.vQ le (I1.hok.fresh le)
theorem Di{K:PySem.W.Frag}{c:Cp}{xs:List V}{g:TG}{tb:TS}{D:Ends}{σ:St}{H:Hp}(Pv:Nat->St->Hp->Prop)(h0:Pv 0 σ H)(hl:∀i σ H,i<=xs.length->Pv i σ H->c.at K H xs)
  (hs:∀(i:Nat) x p σ H,xs[i]? =some x->H p=none->Pv i σ H->g (.ref p) σ (upd H p (.tup [.int (i:Int),x])) λσ2 H2=>tb { D with nx:=Pv (i+1),ct:=Pv (i+1),bk:=D.nx } σ2 H2)
  (hd:∀ σ H,Pv xs.length σ H->D.nx σ H) :
  ∃W:Nat->Nat->St->Hp->Prop,(∃m,W 0 m σ H)/\∀i m σ H,W i m σ H →
   ((TY K c).stop i H/\D.nx σ H)\/((TY K c).go i H/\∃N:St->Hp->Prop,(∀ σ' H',N σ' H'->∃m',m'<m/\W (i+1) m' σ' H')/\∀y H',(TY K c).Ad i H y H'->g y σ H' λσ2 H2=>tb { D with nx:=N,ct:=N,bk:=D.nx } σ2 H2):=by
 refine⟨λi m σ H=>m=xs.length-i/\i<=xs.length/\Pv i σ H,⟨xs.length,by simp,Nat.zero_le _,h0⟩,?_⟩
 rintro i m σ H ⟨rfl,hi,p⟩
 have zx:=hl i σ H hi p
 by_cases hlt:i<xs.length
 ·refine .inr ⟨⟨xs,xs[i],zx,by simp[hlt]⟩,Pv (i+1),λσ' H' p'=>⟨xs.length-(i+1),by omega,rfl,hlt,p'⟩,λv H' q=>?_⟩
  obtain⟨a,x,rfl,ha,rfl,e⟩:=q
  exact hs i x a σ H (e xs zx) ha p
 ·have e:i=xs.length:=by omega
  subst e
  exact .inl ⟨⟨xs,zx,Nat.le_refl _⟩,hd σ H p⟩
end
end L2
namespace L2
open PySem PySem.Spec PyProof.Rows
set_option maxRecDepth 100000
def met(val:Nat->Str)(i:Nat):List Str:=((List.range i).map val).foldl step_dedup []
theorem xE(val:Nat->Str):met val 0=[]:=rfl
theorem qf(val:Nat->Str)(i:Nat):met val (i+1)=step_dedup (met val i) (val i):=by
 unfold met;rw[List.range_succ,List.map_append,List.foldl_append];rfl
theorem qY(val:Nat->Str):∀i,(met val i).length<=i
 | 0=>by rw[xE];exact Nat.le_refl _
 |i+1=>by
  rw[qf]
  have ih:=qY val i
  unfold step_dedup
  split
  ·omega
  ·rw[List.length_append,List.length_singleton];omega
theorem tw(σ:List Str)(v k:Str):(step_dedup σ v).any (·==k)=(σ.any (·==k)||decide (k=v)):=by
 unfold step_dedup
 by_cases h:σ.any (·==v)=true
 ·rw[if_pos h]
  by_cases e:k=v
  ·subst e;rw[h];simp
  ·simp[e]
 ·rw[if_neg h,List.any_append]
  by_cases e:k=v
  ·subst e;simp
  ·have hb:(v==k)=false:=by simpa[beq_iff_eq]using(λh':v=k=>e h'.symm)
   simp[hb,e]
theorem pG(σ:List Str)(v:Str):(step_dedup σ v).length=if σ.any (·==v)then σ.length else σ.length+1:=by
 unfold step_dedup;split<;>simp
section
variable{prog:Program}{w:World}{A:Around}{R:Result->Shared->Prop}{I:Addr}{fp wr:List Addr}{G:Array GenState->Array GenState->Prop}{n:Nat}{P:Nat->Value->Prop}{St:Nat->Shared->Prop}
theorem Am(W:WalksS prog w A.in1 I fp wr G n P St)(S:Addr)(hSf:S∉fp)(val:Nat->Str)(hval:∀i v,P i v->∃t,v= .str (val i) t)(hb:n+1<scanBound):
  ∀(k i:Nat) (s:Shared),n-i=k->i<=n->St i s->s.heap.SetOf (strKind prog w) S (λk'=>(met val i).any (·==k')) (met val i).length →
   (∀s',Moved (S::wr) G s s'->s'.heap.SetOf (strKind prog w) S (λk'=>(met val n).any (·==k')) (met val n).length->R (.ok (.ret .none)) s') →
   codeAny (model prog w) A (.builtin "set.update.loop" ⟨[.ref S,.ref I],[]⟩) R s:=by
 have ZV:S∉wr:=λh=>hSf (W.sub _ h)
 have hsub:∀b∈wr,b∈S::wr:=λb hb=>List.mem_cons_of_mem _ hb
 intro k
 induction k with
 |zero =>
  intro i s hk hi hst hS hR
  have hin:i=n:=by omega
  subst hin
  refine codeAny_builtin PyProof.Rows.F.entry_set_update_loop ?_
  rw[Around.under_plainId PyProof.Rows.F.plain_set_update_loop _]
  show wpAny _ A.in1 (pyNext (.ref I) >>= _) _ _ s
  refine wpAny_bind (W.done s _ _ hst λs' hm=>?_)
  show wpAny _ A.in1 (ret Value.none) _ _ s'
  exact wpAny_pure (hR s' (hm.mono hsub) (by
   obtain⟨o,es,ep,t,ho,rest⟩:=hS
   exact⟨o,es,ep,t,hm.heap S _ ZV ho,rest⟩))
 |succ k ih =>
  intro i s hk hi hst hS hR
  have hlt:i<n:=by omega
  refine codeAny_builtin PyProof.Rows.F.entry_set_update_loop ?_
  rw[Around.under_plainId PyProof.Rows.F.plain_set_update_loop _]
  show wpAny _ A.in1 (pyNext (.ref I) >>= _) _ _ s
  refine wpAny_bind (W.item i s _ _ hlt hst λv s' hP Xx hm=>?_)
  obtain⟨t,rfl⟩:=hval i v hP
  have hS':s'.heap.SetOf (strKind prog w) S (λk'=>(met val i).any (·==k')) (met val i).length:=by
   obtain⟨o,es,ep,tb,ho,rest⟩:=hS
   exact⟨o,es,ep,tb,hm.heap S _ ZV ho,rest⟩
  show wpAny _ A.in1 (holding [Value.str (val i) t] (setAdd S (.str (val i) t)) >>= _) _ _ s'
  refine wpAny_bind (wpAny_holding ?_)
  unfold setAdd
  refine wpAny_holding ?_
  refine wpAny_bind ((strKind prog w).pyHash (k:=val i) (strKind_is _ _ _ _) ?_)
  have hroom:(met val i).length+1<scanBound:=by have:=qY val i;omega
  refine wpAny_setAddHashed_of (knd:=strKind prog w) (s:={ s' with toks:=s'.toks+1 }) (strKind_is _ _ _ _) rfl hS' hroom λh' SH Yg=>?_
  have hSi:h'.SetOf (strKind prog w) S (λk'=>(met val (i+1)).any (·==k')) (met val (i+1)).length :=
   SetOf_congr Yg (λk'=>by rw[qf,tw]) (by rw[qf,pG])
  refine wpAny_pure ⟨plainId_quiet PyProof.Rows.F.plain_set_update_loop _,ih (i+1) _ (by omega) hlt (W.frame _ s' _ _ Xx (Nat.le_succ _) λb hb o e=>?_) hSi λs'' XN Yh=>?_⟩
  ·rw[SH.2 b (λh:b=S=>hSf (by rw[←h];exact hb))];exact e
  ·refine hR s'' (Moved.trans W.gtrans ((hm.mono hsub).then_heap (Nat.le_succ _) λb o hb e=>?_) XN) Yh
   rw[SH.2 b (λh:b=S=>hb (by rw[h];exact List.mem_cons_self))];exact e
end
def lW(x:Str)(i:Nat):Str:=⟨#[x.cps.getD i 0]⟩
theorem GF{prog:Program}{w:World}{A:Around}(hh:A.handled=none)(I:Addr)(x:Str)(t:Tok):
  Walks prog w A I [I] [I] x.cps.size (λi v=>∃u,v= .str (lW x i) u) (λi h=>h.IsStrIter I (strIterType x) x t i) where
 sub:=λ_ hb=>hb
 frame:=λ_ _ _ st hk=>let ⟨o,ho,r⟩:=st;⟨o,hk I (by simp) o ho,r⟩
 item:=λi s Q E hi st hQ=>by
  refine pF st (k:=x.cps.getD i 0) (by simp[hi]) λh' Ho hs'=>?_
  exact hQ _ h' (s.toks+1) ⟨_,rfl⟩ Ho λb o hb e=>hs'.extBut b o (λh=>hb (by simp[h])) e
 done:=λs Q E st hQ=>pV hh st (by simp) λh' he'=>hQ h' s.toks λb o hb e=>he' b o (λh=>hb (by simp[h])) e
 self:=λ_ _ _ _ st hQ=>pW st hQ
theorem Ah:isSubtype (.type "str") (.type "set")=pure false:=by rw[isSubtype_type];kernel_rfl
theorem rG:isSubtype (.type "str") (.type "frozenset")=pure false:=by rw[isSubtype_type];kernel_rfl
section
variable{prog:Program}{w:World}{A:Around}{E:Value->Shared->Prop}{s:Shared}
set_option maxHeartbeats 3200000 in
theorem Bl{x:Str}{t:Tok}{Q:Value->Shared->Prop}(hh:A.handled=none)(hb:x.cps.size+1<scanBound)
  (h:∀(h':Heap) (tk:Nat),h'.SetOf (strKind prog w) s.heap.objs.size (λk'=>(met (lW x) x.cps.size).any (·==k')) (met (lW x) x.cps.size).length →
   (∀b o,b<s.heap.objs.size->s.heap.get? b=some o->h'.get? b=some o)->Q (.ref s.heap.objs.size) { s with heap:=h',toks:=tk }) :
  wpAny (model prog w) A (call (.type "set") [.str x t]) Q E s:=by
 obtain⟨c,tl,abu⟩:=F.called_set.mro
 have hmade:=F.called_set.made
 have hsub:=F.called_set.sub
 refine wpAny_call (codeAny_of_tree ?_)
 show wpAny _ _ (callAny (.type "set") _) _ _ _
 refine wpAny_pure ⟨Code.quiet_builtin _ (by decide +kernel),codeAny_builtin F.entry_type_call ?_⟩
 rw[Around.under_plain (weight_type_call_type "set" [.str x t] []) rfl]
 have h1:=F.called_set.notType
 have h2:=F.called_set.canCreate
 have hct:=F.typeCall_set_1 (.str x t)
 repeat (any_goals (first|assumption|wp_step))
 refine codeAny_mono (code_set_new_1 (.str x t) (E:=E) (Q₁:=λobj s₁=>∃led:Bool,obj= .ref s.heap.objs.size/\s₁={ s with heap:=s.heap.push { cls:=.type "set",dict:=none,data:=.set #[] 0 (.fresh 0 0 led) } }) λled=>⟨led,rfl,rfl⟩) λr s₁ hr=>?_
 cases r with
 |error e=>exact hr
 |ok fl =>
  cases fl with
  |ret obj =>
   obtain⟨led,rfl,rfl⟩:=hr
   have hS:(s.heap.push { cls:=.type "set",dict:=none,data:=.set #[] 0 (.fresh 0 0 led) }).get? s.heap.objs.size=some { cls:=.type "set",dict:=none,data:=.set #[] 0 (.fresh 0 0 led) }:=Heap.get?_push_size _ rfl
   have hT:Shared.TypeIs { s with heap:=s.heap.push { cls:=.type "set",dict:=none,data:=.set #[] 0 (.fresh 0 0 led) } } (.ref s.heap.objs.size) "set" :=⟨_,hS,rfl⟩
   have hli:=F.called_set.init.lookup
   have hbi:=F.called_set.init.bind (.ref s.heap.objs.size)
   repeat (any_goals (first|assumption|wp_step))
   refine codeAny_mono (codeAny_call_builtin (R:=wants (λr s₂=>r= .none/\∃h' tk,s₂={ s with heap:=h',toks:=tk } ∧
     h'.SetOf (strKind prog w) s.heap.objs.size (λk'=>(met (lW x) x.cps.size).any (·==k')) (met (lW x) x.cps.size).length ∧
     (∀b o,b<s.heap.objs.size->s.heap.get? b=some o->h'.get? b=some o)) E) F.called_set.init.plain F.entry_set_init (check_set_init_1 hT ?_)) λr₂ s₂ JL=>?_
   ·have abj:=Ah
    have abk:=rG
    have hne:(Value.type "str" ==Value.type "dict")=false:=by decide
    unfold Builtin.«set.__init__» noKeywords Builtin.Frozenset.updateFrom
    generalize hPI:pyIter=PI
    wp_walk
    subst hPI
    refine wpAny_pyIter_strU ?_
    refine wpAny_bind (wpAny_runValue ?_)
    have hh3:A.in1.in1.in1.handled=none:=by simp[hh]
    have hSf:s.heap.objs.size∉[(s.heap.push { cls:=.type "set",dict:=none,data:=.set #[] 0 (.fresh 0 0 led) }).objs.size]:=by
     rw[Heap.size_push];simp only[List.mem_singleton]
     exact Nat.ne_of_lt (Nat.lt_succ_self _)
    refine Am ((GF hh3 _ x t).toS) s.heap.objs.size hSf (lW x) (λi v hv=>hv) hb (x.cps.size-0) 0 _ (by omega) (Nat.zero_le _)
     ⟨_,Heap.get?_push_size _ rfl,rfl,rfl⟩ ?hS0 ?hR
    case hS0 =>
     have hget:((s.heap.push { cls:=.type "set",dict:=none,data:=.set #[] 0 (.fresh 0 0 led) }).push { cls:=.type (strIterType x),data:=.fields #[.str x t,.int 0 0] }).get? s.heap.objs.size
       = some { cls:=.type "set",dict:=none,data:=.set #[] 0 (.fresh 0 0 led) }:=Heap.get?_push_of_some _ hS
     exact SetOf_congr ((setObjOf_fresh (knd:=strKind prog w) led).setOf hget (by unfold scanBound;omega)) (λ_=>rfl) rfl
    case hR =>
     intro s' hm hS'
     obtain⟨h',g',d',tk',os'⟩:=s'
     have eg:g'=s.gens:=hm.gens
     have ed:d'=s.drawn:=hm.drawn
     have eo:os'=s.os:=hm.os
     subst eg;subst ed;subst eo
     show wpAny _ _ _ _ _ _
     refine wpAny_pure ?_
     show wpAny _ _ (ret Value.none) _ _ _
     refine wpAny_pure ⟨rfl,h',tk',rfl,hS',λb o hb e=>?_⟩
     have hb1:b≠s.heap.objs.size:=Nat.ne_of_lt hb
     have hb2:b≠(s.heap.push { cls:=.type "set",dict:=none,data:=.set #[] 0 (.fresh 0 0 led) }).objs.size:=by
      rw[Heap.size_push];exact Nat.ne_of_lt (Nat.lt_succ_of_lt hb)
     exact hm.heap b o (by simp only[List.mem_cons,List.mem_singleton,List.not_mem_nil,or_false,not_or];exact⟨hb1,hb2⟩) (Heap.get?_push_of_some _ (Heap.get?_push_of_some _ e))
   ·cases r₂ with
    |error e=>exact JL
    |ok Tg =>
     cases Tg with
     |ret r =>
      obtain⟨rfl,h',tk,rfl,hS',hk'⟩:=JL
      repeat (any_goals (first|assumption|wp_step))
      exact h _ _ hS' hk'
     |_=>exact JL.elim
  |_=>exact hr.elim
end
end L2
namespace L2
open PySem PySem.Spec PyProof.Rows
def Rw(P:Program)(w:World)(a:Addr)(n:Nat):HO:=.ext λh=>∃S,h.SetOf (strKind P w) a S n
section
variable{X:Cx}
theorem HA(hc:X.calm=true):lP X (.type "set") (λxs H Q=>∃x,xs=[.str x]/\x.cps.size+1<scanBound/\∀p,H p=none->Q (.ref p) (upd H p (Rw X.prog X.w p (met (lW x) x.cps.size).length))):=by
 intro pins s σ H xs us Q I r h
 obtain⟨x,rfl,hb,q⟩:=h
 obtain⟨u,rfl,t,rfl⟩:=vals1 r
 refine TK.bY (Nat.le_refl s.toks) (Bl (I.ok.hd hc) hb λh' tk hS kk hup=>?_)
 have hn:H s.heap.objs.size=none:=I.fresh
 have k:∀b o,s.heap.get? b=some o->h'.get? b=some o:=λb o e=>kk b o (Heap.lt_size e) e
 refine⟨.ref s.heap.objs.size,_,I.laid (t':=tk) k (Nat.le_refl _) ?_,rfl,q _ hn⟩
 refine⟨⟨_,hS⟩,?_,λh1 h2 p e=>?_⟩
 ·obtain⟨o,_,_,_,ho,_⟩:=hS
  exact⟨o,ho⟩
 ·obtain⟨S,o,es,ep,t,ho,rest⟩:=p
  exact⟨S,o,es,ep,t,e o ho,rest⟩
theorem yQ:lP X (.builtin "len") (λxs H Q=>∃p n,xs=[.ref p]/\H p=some (Rw X.prog X.w p n)/\Q (.int (n:Nat)) H):=by
 intro pins s σ H xs us Q I r h
 obtain⟨p,n,rfl,hp,q⟩:=h
 obtain⟨u,rfl,ru⟩:=vals1 r
 cases ru
 obtain⟨⟨S,o,es,ep,t,ho,hex,hd,_,_,hz,hf,hn⟩,_⟩:=I.hok p _ hp
 subst hn
 have:es.size<4096:=hz
 exact call_len_set ho hex hd hf (by omega) ⟨.int es.size,H,I.tok _,⟨_,rfl⟩,q⟩
def Bg(i:Int):Prop:=i.natAbs<2 ^ 9000
theorem Bg.log{i:Int}(h:Bg i):i.natAbs.log2<9000:=by
 rcases Nat.eq_zero_or_pos i.natAbs with h0|hp
 ·rw[h0];decide
 ·exact(Nat.log2_lt (by omega)).mpr h
theorem Bg.bits{i:Int}(h:Bg i):Builtin.Int.intBits i<=2 ^ 20:=by
 have:=h.log
 unfold Builtin.Int.intBits
 split
 ·exact Nat.zero_le _
 ·exact Nat.le_trans (show i.natAbs.log2+1<=9000 by omega) (by decide)
theorem Lx:uQ X (binaryOp .Mult) (rI (λi j=>Bg i/\Bg j) λi j=>.int (i*j)):=RK λ_ _ _ _ _ _ _ hc q=>mul_int q (IntMulOk.of_bits hc.1.bits hc.2.bits)
end
end L2
namespace L2
open PySem PySem.Spec PyProof.Rows
def UM(K:PySem.W.Frag)(c:Cp):It :=
 ⟨λi H=>∃xs x,c.at K H xs/\xs[i]? =some x,λi H x H'=>H'=H/\∀xs,c.at K H xs->xs[i]? =some x,λi H=>∃xs,c.at K H xs/\xs.length<=i⟩
theorem Turn.conv{P:Program}{w:World}{K:PySem.W.Frag}{tg:Expr}{J J':It}{fp:List Addr}{it:Addr}{tn:Nat->Heap->Prop}(T:Turn P w K tg J fp it tn)
  (hg:∀i H,J'.go i H->J.go i H) (hy:∀i H x H',J.Ad i H x H'->J'.Ad i H x H') (hs:∀i H,J'.stop i H->J.stop i H):Turn P w K tg J' fp it tn where
 mem:=T.mem
 obj:=T.obj
 keep:=T.keep
 item:=λX hP hw hK hc i pins s σ H E I hf st g=>wpAny_mono (T.item X hP hw hK hc i pins s σ H E I hf st (hg i H g)) (λr s1 ⟨u,hr,h⟩=>⟨u,hr,wpAny_mono h (λ_ s2 ⟨x,H',I',r',y,t',n'⟩=>⟨x,H',I',r',hy i H x H' y,t',n'⟩) λ_ _ z=>z⟩) λ_ _ z=>z
 done:=λX hP hw hK hc i pins s σ H E I hf st g=>T.done X hP hw hK hc i pins s σ H E I hf st (hs i H g)
 self:=T.self
theorem signs_length(x:Str):(fj x).length=x.cps.size:=by simp[fj]
theorem signs_at{x:Str}{i k:Nat}(h:x.cps[i]? =some k):(fj x)[i]? =some (.str ⟨#[k]⟩):=by
 unfold fj
 rw[List.getElem?_map]
 have e:x.cps.toList[i]? =some k:=by simpa using h
 rw[e]
 rfl
section
variable{X:Cx}{tg:Expr}
def iCp(K:PySem.W.Frag)(tl:TE):TI:=λσ H R=>tl σ H λv H1=>∃c xs,v=Cp.val c/\c.at K H1 xs/\R (UM K c) H1
theorem Cz{l:Expr}{tl:TE}(hl:PE X l tl):PI X tg l (iCp X.K tl):=by
 intro pins s σ H R I h
 refine fh (hl pins s σ H _ I h) λv s1 ⟨y,H1,I1,r1,q1⟩=>?_
 obtain⟨c,xs,e,hq,q⟩:=q1
 subst e
 have Yx:∀b∈[s1.heap.objs.size],pK X pins H1 b:=λb hb=>by
  have e:b=s1.heap.objs.size:=by simpa using hb
  subst e
  exact I1.vQ (Nat.le_refl _) (I1.hok.fresh (Nat.le_refl _))
 cases c with
 |lst a =>
  cases (show v=Value.ref a from r1)
  obtain⟨its,rv,p,hz⟩:=I1.list hq
  refine wpAny_pyIter_list p.isList ?_
  exact⟨s1.heap.objs.size,[s1.heap.objs.size],_,_,H1,rfl,I1.kept (t':=s1.toks) λb o e=>Heap.get?_push_of_some _ e,zq a _,⟨_,Heap.get?_push_size _ rfl,rfl,rfl⟩,Yx,q⟩
 |tup a =>
  cases (show v=Value.ref a from r1)
  obtain⟨its,rv,p,hz⟩:=I1.tuple hq
  refine wpAny_pyIter_tuple (show s1.heap.IsTuple a its.toArray from p) ?_
  exact⟨s1.heap.objs.size,[s1.heap.objs.size],_,_,H1,rfl,I1.kept (t':=s1.toks) λb o e=>Heap.get?_push_of_some _ e,wK a _,⟨_,Heap.get?_push_size _ rfl,rfl,rfl⟩,Yx,q⟩
 |txt x =>
  obtain⟨t,rfl⟩:=(show ∃t,v=Value.str x t from r1)
  refine wpAny_pyIter_strU ?_
  refine⟨s1.heap.objs.size,[s1.heap.objs.size],_,_,H1,rfl,I1.kept (t':=s1.toks) λb o e=>Heap.get?_push_of_some _ e,(B0 x t _).conv ?_ ?_ ?_,⟨_,Heap.get?_push_size _ rfl,rfl,rfl⟩,Yx,q⟩
  ·rintro i H ⟨xs,y,hx,e⟩
   rw[show xs=fj x from hx]at e
   have:=(List.getElem?_eq_some_iff.mp e).1
   rw[signs_length]at this
   exact this
  ·rintro i H y H' ⟨rfl,k,e,rfl⟩
   refine⟨rfl,λxs hx=>?_⟩
   rw[show xs=fj x from hx]
   exact signs_at e
  ·rintro i H ⟨xs,hx,e⟩
   rw[show xs=fj x from hx,signs_length]at e
   exact e
theorem JX{K:PySem.W.Frag}{c:Cp}{xs:List V}{g:TG}{tb:TS}{D:Ends}{σ:St}{H:Hp}(Pv:Nat->St->Hp->Prop)(h0:Pv 0 σ H)(hl:∀i σ H,i<=xs.length->Pv i σ H->c.at K H xs)
  (hs:∀i x σ H,xs[i]? =some x->Pv i σ H->g x σ H λσ2 H2=>tb { D with nx:=Pv (i+1),ct:=Pv (i+1),bk:=D.nx } σ2 H2) (hd:∀ σ H,Pv xs.length σ H->D.nx σ H) :
  ∃W:Nat->Nat->St->Hp->Prop,(∃m,W 0 m σ H)/\∀i m σ H,W i m σ H →
   ((UM K c).stop i H/\D.nx σ H)\/((UM K c).go i H/\∃N:St->Hp->Prop,(∀ σ' H',N σ' H'->∃m',m'<m/\W (i+1) m' σ' H')/\∀x H',(UM K c).Ad i H x H'->g x σ H' λσ2 H2=>tb { D with nx:=N,ct:=N,bk:=D.nx } σ2 H2):=by
 refine⟨λi m σ H=>m=xs.length-i/\i<=xs.length/\Pv i σ H,⟨xs.length,by simp,Nat.zero_le _,h0⟩,?_⟩
 rintro i m σ H ⟨rfl,hi,p⟩
 have q:=hl i σ H hi p
 by_cases hlt:i<xs.length
 ·refine .inr ⟨⟨xs,xs[i],q,by simp[hlt]⟩,Pv (i+1),λσ' H' p'=>⟨xs.length-(i+1),by omega,rfl,hlt,p'⟩,λx H' y=>?_⟩
  obtain⟨e,y⟩:=y
  subst e
  exact hs i x σ _ (y xs q) p
 ·have e:i=xs.length:=by omega
  subst e
  exact .inl ⟨⟨xs,q,Nat.le_refl _⟩,hd σ H p⟩
end
end L2
namespace sy
def lo(a b:Int):Int×Int:=(a / (Int.gcd a b:Int),b / (Int.gcd a b:Int))
theorem o5(a:Int){b:Int}(hb:0<b):0<(Int.gcd a b:Int):=by
 have:0<Int.gcd a b:=Int.gcd_pos_of_ne_zero_right a (by omega)
 omega
theorem ES(a:Int){b:Int}(hb:0<b):(Int.gcd a b:Int)<=b:=Int.le_of_dvd hb (Int.gcd_dvd_right ..)
theorem Jv(a:Int){b:Int}(hb:0<b):0<(lo a b).2 :=
 Int.ediv_pos_of_pos_of_dvd hb (Int.le_of_lt (o5 a hb)) (Int.gcd_dvd_right ..)
theorem lo_le(a:Int){b:Int}(hb:0<b):(lo a b).2<=b:=by
 have h:=o5 a hb
 exact Int.ediv_le_self _ (Int.le_of_lt hb)
theorem Jw(a:Int){b:Int}(hb:0<b):Int.gcd (lo a b).1 (lo a b).2=1 :=
 Int.gcd_ediv_gcd_ediv_gcd (Int.gcd_pos_of_ne_zero_right a (by omega))
theorem EL(a b:Int):(lo a b).1*(Int.gcd a b:Int)=a:=Int.ediv_mul_cancel (Int.gcd_dvd_left ..)
theorem Ju(a b:Int):(lo a b).2*(Int.gcd a b:Int)=b:=Int.ediv_mul_cancel (Int.gcd_dvd_right ..)
theorem Jx(a b:Int):(lo a b).1*b=a*(lo a b).2:=by
 have h1:=EL a b
 have h2:=Ju a b
 generalize (lo a b).1=x at *
 generalize (lo a b).2=y at *
 generalize (Int.gcd a b:Int)=g at *
 rw[←h1,←h2,Int.mul_assoc,Int.mul_comm y g]
theorem JV(a b:Int):Int.gcd b (a % b)=Int.gcd a b:=by
 have e:a=a % b+b*(a / b):=(Int.emod_add_mul_ediv a b).symm
 have h:Int.gcd (a % b+b*(a / b)) b=Int.gcd (a % b) b:=Int.gcd_add_mul_left_left ..
 rw[←e]at h
 rw[h,Int.gcd_comm]
theorem Mh(a:Int):(if a<0 then -a else a)=(Int.gcd a 0:Int):=by
 rw[Int.gcd_zero_right]
 split<;>omega
end sy
namespace GP
open PySem L2 sy
abbrev cJ:=Int×Int
def kD(f:cJ):cJ:=lo f.1 f.2
theorem ai.upd{H:Hp}{q:Addr}{o:HO}(h:H q=none):ai H (L2.upd H q o):=λb u e=>by rw[ao (aP e h)];exact e
theorem ai.at{H H2:Hp}{t:Addr}{o:HO}(e:ai H H2)(h:H t=none):ai H (L2.upd H2 t o):=λb u q=>by rw[ao (aP q h)];exact e b u q
theorem ai.tup{K:PySem.W.Frag}{H H':Hp}{a:Addr}{xs:List V}(e:ai H H')(h:dR K H a xs):dR K H' a xs:=by
 rcases h with(h|⟨o,h⟩)|h
 ·exact .inl (.inl (e _ _ h))
 ·exact .inl (.inr ⟨o,e _ _ h⟩)
 ·exact .inr h
theorem ai.cp{K:PySem.W.Frag}{H H':Hp}{c:Cp}{xs:List V}(e:ai H H')(h:c.at K H xs):c.at K H' xs:=by
 cases c with
 |lst a=>exact ai.seq e h
 |tup a=>exact ai.tup e h
 |txt x=>exact h
def kB(K:PySem.W.Frag)(H:Hp)(p:Addr)(f:cJ):Prop:=dR K H p [.int f.1,.int f.2]
theorem kB.same{K:PySem.W.Frag}{H H':Hp}{p:Addr}{f:cJ}(e:ai H H')(h:kB K H p f):kB K H' p f:=ai.tup e h
def ki(K:PySem.W.Frag)(H:Hp)(c:Cp)(fs:List cJ):Prop:=∃ps:List Addr,c.at K H (ps.map V.ref)/\Paired (kB K H) ps fs
theorem ki.same{K:PySem.W.Frag}{H H':Hp}{c:Cp}{fs:List cJ}(e:ai H H')(h:ki K H c fs):ki K H' c fs:=by
 obtain⟨ps,a,b⟩:=h
 exact⟨ps,ai.cp e a,Paired.dP b λ_ _ z=>z.same e⟩
def Nl(K:PySem.W.Frag)(H:Hp)(c:Cp)(rows:List (List cJ)):Prop:=∃cs:List Cp,c.at K H (cs.map Cp.val)/\Paired (ki K H) cs rows
theorem Paired.at{α β:Type}{F:α->β->Prop}:∀{l₁:List α} {l₂:List β} {i:Nat} {x:α},Paired F l₁ l₂->l₁[i]? =some x->∃y,l₂[i]? =some y/\F x y
 |_,_,i,_,.nil,e=>by simp at e
 |_,_,0,_,.cons r _,e=>by simp at e;subst e;exact⟨_,rfl,r⟩
 |_,_,i+1,x,.cons _ t,e=>by
  obtain⟨y,h1,h2⟩:=Paired.at (i:=i) (x:=x) t (by simpa using e)
  exact⟨y,by simpa using h1,h2⟩
theorem Paired.len{α β:Type}{F:α->β->Prop}{l₁:List α}{l₂:List β}(h:Paired F l₁ l₂):l₁.length=l₂.length:=Paired.length h
theorem Paired.snoc{α β:Type}{F:α->β->Prop}{x:α}{y:β}:∀{l₁:List α} {l₂:List β},Paired F l₁ l₂->F x y->Paired F (l₁++[x]) (l₂++[y])
 |_,_,.nil,h=>.cons h .nil
 |_,_,.cons r t,h=>.cons r (Paired.snoc t h)
theorem take_snoc{α:Type}{l:List α}{i:Nat}{x:α}(h:l[i]? =some x):l.take (i+1)=l.take i++[x]:=by
 rw[List.take_add_one,h];rfl
theorem qZ{α β:Type}{l:List α}{f:α->β}{i:Nat}{x:α}(h:l[i]? =some x):(l.map f).take (i+1)=(l.map f).take i++[f x]:=take_snoc (by rw[List.getElem?_map,h];rfl)
theorem xO{i j:Int}{A B:Prop}(h1:i≠j->A)(h2:i=j->B):if(!decide (V.int i=V.int j))=true then A else B:=by
 by_cases h:i=j
 ·rw[kg,if_neg (by simp[h])];exact h2 h
 ·rw[kg,if_pos (by simp[h])];exact h1 h
theorem n8{i j:Int}{A B:Prop}(h1:i=j->A)(h2:i≠j->B):if(decide (V.int i=V.int j))=true then A else B:=by
 by_cases h:i=j
 ·rw[kg,if_pos (by simp[h])];exact h1 h
 ·rw[kg,if_neg (by simp[h])];exact h2 h
theorem cD{p:Prop}[Decidable p]{A B:Prop}(h1:p->A)(h2:¬p->B):if(decide p)=true then A else B:=by
 by_cases h:p
 ·rw[if_pos (decide_eq_true h)];exact h1 h
 ·rw[if_neg (by rw[decide_eq_false h];exact Bool.false_ne_true)];exact h2 h
theorem Ga{A B:Prop}(h:A):if(!false)=true then A else B:=by
 rw[if_pos (show(!false)=true from rfl)];exact h
theorem vf{A B:Prop}(h:B):if(!true)=true then A else B:=by
 rw[if_neg (by decide)];exact h
structure Dn(K:PySem.W.Frag)(mg:Str->Option Value)(x:Str)(st:Stmt)(ps:List Str)(f:Addr)(fd:FuncData):Prop where
 fn:K3 K x x st f fd
 b:Binds K fd ps []
 m:mg x=some (.ref f)
def FG:Sp:=λvs H Q _=>∃a b:Int,vs=[.int a,.int b]/\0<=b/\Q (.int (Int.gcd a b)) H
def lm(a b:Int):Int:=a / (Int.gcd a b:Int)*b
def MJ(K:PySem.W.Frag):Sp:=λvs H Q _=>∃(p:Addr) (f:cJ),vs=[.ref p]/\kB K H p f/\0<f.2/\f.2<1073741824 ∧
 ∀q,H q=none->Q (.ref q) (L2.upd H q (.tup [.int (kD f).1,.int (kD f).2]))
def DL(f:cJ):Prop:=1<=f.2/\f.2<1073741824
def rL(K:PySem.W.Frag):Sp:=λvs H Q _=>∃(p:Addr) (f:cJ),vs=[.ref p]/\kB K H p f/\DL f ∧
 ∀q,H q=none->Q (.ref q) (L2.upd H q (.tup [.int (kD f).1,.int (kD f).2]))
def uV(K:PySem.W.Frag):Sp:=λvs H Q _=>∃(c:Cp) (fs:List cJ),vs=[c.val]/\ki K H c fs/\(∀f∈fs,DL f)/\fs.length<=1000 ∧
 ∀q H',ai H H'->H q=none->ki K H' (.tup q) (fs.map kD)->Q (.ref q) H'
def cF(o m:Int)(rows:List (List cJ)):Int:=(rows.flatten.map (·.2)).foldl lm (lm o m)
def lG(fo fm:cJ)(rows:List (List cJ)):List Int:=fo.2::fm.2::rows.flatten.map (·.2)
def Cd(K:PySem.W.Frag):Sp:=λvs H Q _=>∃(P o m:Addr) (rows:List (List cJ)) (fo fm:cJ),vs=[.ref P,.ref o,.ref m]/\Nl K H (.tup P) rows/\kB K H o fo/\kB K H m fm ∧
 rows.length<=12/\(∀r∈rows,r.length<=12)/\∀l H',ai H H'->H l=none->H' l=some (.lst ((lG fo fm rows).map V.int))->Q (.ref l) H'
def qN(p:List Int×Int)(b:Int):List Int×Int:=if b / (Int.gcd p.2 b:Int)>1 then(p.1++[b / (Int.gcd p.2 b:Int)],p.2*(b / (Int.gcd p.2 b:Int)))else p
def oJ(ns:List Int):List Int×Int:=ns.foldl qN ([],1)
def oh(n:Int):Prop:=0<n/\n<1073741824
def zB(K:PySem.W.Frag):Sp:=λvs H Q _=>∃(l:Addr) (ns:List Int),vs=[.ref l]/\bI K H l (ns.map V.int)/\ns.length<=1000/\(∀n∈ns,oh n) ∧
 ∀q H',ai H H'->H q=none->H' q=some (.lst ((oJ ns).1.map V.int))->Q (.ref q) H'
def qW(fs:List Int):Int:=fs.foldl (·*·) 1
def IF(K:PySem.W.Frag):Sp:=λvs H Q _=>∃(l:Addr) (fs:List Int),vs=[.ref l]/\bI K H l (fs.map V.int)/\(∀n∈fs,oh n)/\Q (.int (qW fs)) H
def wR(K:PySem.W.Frag):Sp:=λvs H Q _=>∃(p:Addr) (f:cJ) (u:Int),vs=[.ref p,.int u]/\kB K H p f/\DL f/\Bg f.1/\Bg (u / f.2)/\Q (.int (f.1*(u / f.2))) H
theorem Pu{b:Int}:lm 1 b=b:=by
 unfold lm
 rw[Int.gcd_one_left]
 simp
theorem Pw{a b:Int}:lm a b=a*(b / (Int.gcd a b:Int)):=by
 unfold lm
 rw[←Int.mul_ediv_assoc' b (Int.gcd_dvd_left a b),Int.mul_ediv_assoc a (Int.gcd_dvd_right a b)]
structure DU(p:List Int×Int)(ns:List Int):Prop where
 small:∀f∈p.1,oh f
 prod:qW p.1=p.2
 unit:p.2=ns.foldl lm 1
 pos:0<p.2
 len:p.1.length<=ns.length
theorem rO(fs:List Int)(f:Int):qW (fs++[f])=qW fs*f:=by
 unfold qW
 rw[List.foldl_append]
 rfl
theorem Gk{u b:Int}(hb:oh b):0<b / (Int.gcd u b:Int)/\b / (Int.gcd u b:Int)<=b:=by
 have g1:=o5 u hb.1
 exact⟨Int.ediv_pos_of_pos_of_dvd hb.1 (Int.le_of_lt g1) (Int.gcd_dvd_right u b),Int.ediv_le_self _ (Int.le_of_lt hb.1)⟩
theorem DU.step{p:List Int×Int}{ns:List Int}{b:Int}(h:DU p ns)(hb:oh b):DU (qN p b) (ns++[b]):=by
 obtain⟨d1,d2⟩:=Gk (u:=p.2) hb
 have e:(ns++[b]).foldl lm 1=p.2*(b / (Int.gcd p.2 b:Int)):=by
  rw[List.foldl_append,←h.unit]
  exact Pw
 unfold qN
 split
 ·next h1 =>
  refine⟨λf hf=>?_,?_,e.symm,Int.mul_pos h.pos d1,?_⟩
  ·rcases List.mem_append.mp hf with hf|hf
   ·exact h.small f hf
   ·rw[List.mem_singleton.mp hf]
    exact⟨d1,Int.lt_of_le_of_lt d2 hb.2⟩
  ·rw[rO,h.prod]
  ·rw[List.length_append,List.length_append]
   exact Nat.add_le_add_right h.len 1
 ·next h1 =>
  have e1:b / (Int.gcd p.2 b:Int)=1:=by omega
  refine⟨h.small,h.prod,?_,h.pos,?_⟩
  ·rw[e,e1,Int.mul_one]
  ·rw[List.length_append]
   exact Nat.le_trans h.len (Nat.le_add_right _ _)
theorem xX(ns:List Int)(b:Int):oJ (ns++[b])=qN (oJ ns) b:=by
 unfold oJ
 rw[List.foldl_append]
 rfl
theorem uM{ns:List Int}(h:∀n∈ns,oh n):∀i,i<=ns.length->DU (oJ (ns.take i)) (ns.take i)
 | 0,_=>by
  rw[List.take_zero]
  exact⟨λf hf=>(by cases hf),rfl,rfl,(by decide),Nat.le_refl _⟩
 |i+1,hi=>by
  have e:=List.getElem?_eq_getElem (l:=ns) (i:=i) hi
  rw[take_snoc e,xX]
  exact(uM h i (Nat.le_of_lt hi)).step (h _ (List.getElem_mem hi))
theorem Ml{ns:List Int}(h:∀n∈ns,oh n):DU (oJ ns) ns:=by
 have z:=uM h ns.length (Nat.le_refl _)
 rw[List.take_length]at z
 exact z
theorem BZ(fo fm:cJ)(rows:List (List cJ)):(lG fo fm rows).foldl lm 1=cF fo.2 fm.2 rows:=by
 unfold lG cF
 rw[List.foldl_cons,List.foldl_cons,Pu]
end GP
namespace GP
open PySem L2 sy
structure Dm(K:PySem.W.Frag)(x qual:Str)(st:Stmt)(ps:List Str)(f:Addr)(fd:FuncData):Prop where
 fn:K3 K x qual st f fd
 b:Binds K fd ps []
def Dat(H H':Hp):Prop:=∀b u,(∀C dx fs,u≠HO.ins C dx fs)->H b=some u->H' b=some u
theorem Dat.of{H H':Hp}(e:ai H H'):Dat H H':=λb u _ h=>e b u h
theorem Dat.trans{H H' Np:Hp}(e:Dat H H')(f:Dat H' Np):Dat H Np:=λb u n h=>f b u n (e b u n h)
theorem Dat.set{H:Hp}{x C dx:Addr}{fs fs':List (Str×V)}(h:H x=some (.ins C dx fs)):Dat H (L2.upd H x (.ins C dx fs')):=λb u n e=>by
 rw[ao (λz=>by subst z;rw[h]at e;cases e;exact n _ _ _ rfl)];exact e
theorem Dat.tup{K:PySem.W.Frag}{H H':Hp}{a:Addr}{xs:List V}(e:Dat H H')(h:dR K H a xs):dR K H' a xs:=by
 rcases h with(h|⟨o,h⟩)|h
 ·exact .inl (.inl (e _ _ (λ_ _ _ z=>by cases z) h))
 ·exact .inl (.inr ⟨o,e _ _ (λ_ _ _ z=>by cases z) h⟩)
 ·exact .inr h
theorem Dat.lst{K:PySem.W.Frag}{H H':Hp}{a:Addr}{xs:List V}(e:Dat H H')(h:bI K H a xs):bI K H' a xs:=by
 rcases h with(h|⟨o,h⟩)|h
 ·exact .inl (.inl (e _ _ (λ_ _ _ z=>by cases z) h))
 ·exact .inl (.inr ⟨o,e _ _ (λ_ _ _ z=>by cases z) h⟩)
 ·exact .inr h
theorem Dat.cp{K:PySem.W.Frag}{H H':Hp}{c:Cp}{xs:List V}(e:Dat H H')(h:c.at K H xs):c.at K H' xs:=by
 cases c with
 |lst a=>exact Dat.lst e h
 |tup a=>exact Dat.tup e h
 |txt x=>exact h
theorem kB.dat{K:PySem.W.Frag}{H H':Hp}{p:Addr}{f:cJ}(e:Dat H H')(h:kB K H p f):kB K H' p f:=Dat.tup e h
theorem ki.dat{K:PySem.W.Frag}{H H':Hp}{c:Cp}{fs:List cJ}(e:Dat H H')(h:ki K H c fs):ki K H' c fs:=by
 obtain⟨ps,a,b⟩:=h
 exact⟨ps,Dat.cp e a,Paired.dP b λ_ _ z=>z.dat e⟩
def Bv(K:PySem.W.Frag)(H:Hp)(P:Addr)(rows:List (List cJ)):Prop:=∃qs:List Addr,dR K H P (qs.map V.ref)/\Paired (λq r=>ki K H (.tup q) r) qs rows
theorem Bv.dat{K:PySem.W.Frag}{H H':Hp}{P:Addr}{rows:List (List cJ)}(e:Dat H H')(h:Bv K H P rows):Bv K H' P rows:=by
 obtain⟨cs,a,b⟩:=h
 exact⟨cs,Dat.tup e a,Paired.dP b λ_ _ z=>z.dat e⟩
theorem rP{α β γ:Type}{F:γ->β->Prop}{g:α->γ}:∀{l₁:List α} {l₂:List β},Paired (λa b=>F (g a) b) l₁ l₂->Paired F (l₁.map g) l₂
 |_,_,.nil=>.nil
 |_,_,.cons r t=>.cons r (rP t)
theorem Bv.mat{K:PySem.W.Frag}{H:Hp}{P:Addr}{rows:List (List cJ)}(h:Bv K H P rows):Nl K H (.tup P) rows:=by
 obtain⟨qs,a,b⟩:=h
 refine⟨qs.map Cp.tup,?_,rP b⟩
 rw[List.map_map]
 exact a
theorem Km{K:PySem.W.Frag}{H:Hp}{c:Cp}{xs:List V}(h:c.at K H xs)(hx:∀x,c≠ .txt x):QD K c.val H xs.length:=by
 cases c with
 |lst a=>exact .inl ⟨_,h,rfl⟩
 |tup a=>exact .inr ⟨_,h,rfl⟩
 |txt x=>exact absurd rfl (hx x)
theorem ki.len{K:PySem.W.Frag}{H:Hp}{c:Cp}{fs:List cJ}(h:ki K H c fs)(hx:∀x,c≠ .txt x):QD K c.val H fs.length:=by
 obtain⟨ps,a,b⟩:=h
 have z:=Km a hx
 rw[List.length_map,Paired.len b]at z
 exact z
def o4(n:Nat):Bool:=(decide ((32:Int)<=(n:Int))&&decide ((n:Int)<=126))&& !L4 (.int n) [.int 34,.int 37,.int 45]
def z6(x:Str):Prop:=0<x.cps.size/\x.cps.size<=100/\(∀c∈x.cps.toList,o4 c=true)/\x.cps.toList.Nodup
theorem pR{x:Str}(h:x.cps.toList.Nodup){i j a b:Nat}(hi:x.cps[i]? =some a)(hj:x.cps[j]? =some b)(hij:i≠j):a≠b:=by
 intro z
 subst z
 rw[←Array.getElem?_toList]at hi hj
 exact hij ((List.getElem?_inj (List.getElem?_eq_some_iff.mp hi).1 h).mp (hi.trans hj.symm))
theorem F6(val:Nat->Str)(k:Str):∀i,(met val i).any (·==k)=true->∃j,j<i/\val j=k
 | 0,h=>by rw[xE]at h;cases h
 |i+1,h=>by
  rw[qf,tw,Bool.or_eq_true]at h
  rcases h with h|h
  ·obtain⟨j,h1,h2⟩:=F6 val k i h
   exact⟨j,by omega,h2⟩
  ·exact⟨i,by omega,(of_decide_eq_true h).symm⟩
theorem CY{val:Nat->Str}{n:Nat}(h:∀i j,i<n->j<n->i≠j->val i≠val j):∀i,i<=n->(met val i).length=i
 | 0,_=>by rw[xE];rfl
 |i+1,hi=>by
  rw[qf,pG]
  have e:¬((met val i).any (·==val i)=true):=λz=>by
   obtain⟨j,h1,h2⟩:=F6 val _ i z
   exact h j i (by omega) (by omega) (by omega) h2
  rw[if_neg e,CY h i (by omega)]
theorem G5{x:Str}(h:x.cps.toList.Nodup):(met (lW x) x.cps.size).length=x.cps.size:=by
 refine CY (n:=x.cps.size) (λi j hi hj hij z=>?_) _ (Nat.le_refl _)
 unfold lW at z
 have e1:x.cps[i]? =some (x.cps.getD i 0):=by simp[hi]
 have e2:x.cps[j]? =some (x.cps.getD j 0):=by simp[hj]
 refine pR h e1 e2 hij ?_
 have z2: #[x.cps.getD i 0]= #[x.cps.getD j 0]:=congrArg Str.cps z
 simpa using z2
def Cm:Sp:=λvs H Q _=>∃c:Nat,vs=[.str ⟨#[c]⟩]/\Q (.bl (o4 c)) H
def wU:Sp:=λvs H Q _=>∃x:Str,vs=[.str x]/\x.cps.size<=1000/\∀H',ai H H'->Q (.bl (x.cps.toList.all o4)) H'
def sM:Sp:=λvs H Q _=>∃x:Str,vs=[.str x]/\z6 x/\∀H',ai H H'->Q .iz H'
def Nk(c:Cp):Prop:=∀x,c≠ .txt x
def HL(K:PySem.W.Frag)(H:Hp)(c:Cp)(rows:List (List cJ)):Prop:=Nk c/\∃cs:List Cp,(∀d∈cs,Nk d)/\c.at K H (cs.map Cp.val)/\Paired (ki K H) cs rows
theorem HL.dat{K:PySem.W.Frag}{H H':Hp}{c:Cp}{rows:List (List cJ)}(e:Dat H H')(h:HL K H c rows):HL K H' c rows:=by
 obtain⟨n,cs,m,a,b⟩:=h
 exact⟨n,cs,m,Dat.cp e a,Paired.dP b λ_ _ z=>z.dat e⟩
def K1(n:Nat)(rows:List (List cJ)):Prop:=rows.length=n/\∀r∈rows,r.length=n
def pQ(K:PySem.W.Frag):Sp:=λvs H Q _=>∃(x:Str) (c:Cp) (rows:List (List cJ)),vs=[.str x,c.val]/\HL K H c rows/\x.cps.size<=100/\K1 x.cps.size rows/\Q .iz H
def K4(rows:List (List cJ))(i j:Nat)(f:cJ):Prop:=∃r,rows[i]? =some r/\r[j]? =some f
def keyOf(a b:Nat):List Key:=[.inr ⟨#[a]⟩,.inr ⟨#[b]⟩]
def Fj(kvs:List (List Key×V))(x:Str)(rows:List (List cJ))(u:Int):Prop :=
 ∀i j a b f,x.cps[i]? =some a->x.cps[j]? =some b->K4 rows i j f->lU kvs (keyOf a b)=some (.int (f.1*(u / f.2)))
def Sm(i:Int):Prop:=i.natAbs<2 ^ 200
def Bu(i:Int):Prop:=i.natAbs<=2 ^ 4380
theorem Sm.bg{i:Int}(h:Sm i):Bg i:=Nat.lt_of_lt_of_le h (Nat.pow_le_pow_right (by decide) (by decide))
theorem Bu.bg{i:Int}(h:Bu i):Bg i:=Nat.lt_of_le_of_lt h (Nat.pow_lt_pow_right (by decide) (by decide))
def TM(u:Int)(f:cJ):Prop:=DL f/\Sm f.1/\Bu (u / f.2)
def FJ(K:PySem.W.Frag):Sp:=λvs H Q _=>∃(x:Str) (P:Addr) (u:Int) (rows:List (List cJ)),vs=[.str x,.ref P,.int u]/\Bv K H P rows/\x.cps.size<=100/\x.cps.toList.Nodup/\K1 x.cps.size rows/\(∀r∈rows,∀f∈r,TM u f) ∧
 ∀d H' kvs,ai H H'->H d=none->H' d=some (.dT kvs)->Fj kvs x rows u->Q (.ref d) H'
def jh(x:Str)(P o m:Addr)(u:Int)(d:Addr×Addr):List (Str×V) :=
 aF "costs" (.ref d.1) (aF "unit" (.int u) (aF "factors" (.ref d.2) (aF "more" (.ref m) (aF "opening" (.ref o) (aF "pairs" (.ref P) (aF "signs" (.str x) []))))))
theorem Dl{x:Str}{P o m:Addr}{u:Int}{d:Addr×Addr}:(jh x P o m u d).lookup ("signs" :Str)=some (.str x):=by
 unfold jh
 rw[av,if_neg (by decide +kernel),av,if_neg (by decide +kernel),av,if_neg (by decide +kernel),av,if_neg (by decide +kernel),av,if_neg (by decide +kernel),av,if_neg (by decide +kernel),av,if_pos rfl]
theorem yO{x:Str}{P o m:Addr}{u:Int}{d:Addr×Addr}:(jh x P o m u d).lookup ("opening" :Str)=some (.ref o):=by
 unfold jh
 rw[av,if_neg (by decide +kernel),av,if_neg (by decide +kernel),av,if_neg (by decide +kernel),av,if_neg (by decide +kernel),av,if_pos rfl]
theorem EX{x:Str}{P o m:Addr}{u:Int}{d:Addr×Addr}:(jh x P o m u d).lookup ("more" :Str)=some (.ref m):=by
 unfold jh
 rw[av,if_neg (by decide +kernel),av,if_neg (by decide +kernel),av,if_neg (by decide +kernel),av,if_pos rfl]
theorem yP{x:Str}{P o m:Addr}{u:Int}{d:Addr×Addr}:(jh x P o m u d).lookup ("factors" :Str)=some (.ref d.2):=by
 unfold jh
 rw[av,if_neg (by decide +kernel),av,if_neg (by decide +kernel),av,if_pos rfl]
theorem xT{x:Str}{P o m:Addr}{u:Int}{d:Addr×Addr}:(jh x P o m u d).lookup ("unit" :Str)=some (.int u):=by
 unfold jh
 rw[av,if_neg (by decide +kernel),av,if_pos rfl]
theorem Dp{x:Str}{P o m:Addr}{u:Int}{d:Addr×Addr}:(jh x P o m u d).lookup ("costs" :Str)=some (.ref d.1):=by
 unfold jh
 rw[av,if_pos rfl]
def vS(x:Str)(P o m:Addr)(u:Int)(d:Addr×Addr)(ou mu:Int):List (Str×V) :=
 aF "more_units" (.int mu) (aF "opening_units" (.int ou) (jh x P o m u d))
theorem xS {x:Str} {P o m:Addr} {u:Int} {d:Addr×Addr} {ou mu:Int} {f:Str} (h1:¬f= "more_units") (h2:¬f= "opening_units"):(vS x P o m u d ou mu).lookup f=(jh x P o m u d).lookup f:=by
 unfold vS
 rw[av,if_neg h1,av,if_neg h2]
theorem o6{x:Str}{P o m:Addr}{u:Int}{d:Addr×Addr}{ou mu:Int}:(vS x P o m u d ou mu).lookup ("signs" :Str)=some (.str x):=(xS (by decide +kernel) (by decide +kernel)).trans Dl
theorem o8{x:Str}{P o m:Addr}{u:Int}{d:Addr×Addr}{ou mu:Int}:(vS x P o m u d ou mu).lookup ("factors" :Str)=some (.ref d.2):=(xS (by decide +kernel) (by decide +kernel)).trans yP
theorem EW{x:Str}{P o m:Addr}{u:Int}{d:Addr×Addr}{ou mu:Int}:(vS x P o m u d ou mu).lookup ("costs" :Str)=some (.ref d.1):=(xS (by decide +kernel) (by decide +kernel)).trans Dp
theorem rq {x:Str} {P o m:Addr} {u:Int} {d:Addr×Addr} {v:V} {f:Str} (h2:¬f= "opening_units"):(aF "opening_units" v (jh x P o m u d)).lookup f=(jh x P o m u d).lookup f:=by
 rw[av,if_neg h2]
theorem sr{x:Str}{P o m:Addr}{u:Int}{d:Addr×Addr}{ou mu:Int}:(vS x P o m u d ou mu).lookup ("opening_units" :Str)=some (.int ou):=by
 unfold vS
 rw[av,if_neg (by decide +kernel),av,if_pos rfl]
theorem vR{x:Str}{P o m:Addr}{u:Int}{d:Addr×Addr}{ou mu:Int}:(vS x P o m u d ou mu).lookup ("more_units" :Str)=some (.int mu):=by
 unfold vS
 rw[av,if_pos rfl]
theorem Jq{x:Str}{P o m:Addr}:(aF "more" (.ref m) (aF "opening" (.ref o) (aF "pairs" (.ref P) (aF "signs" (.str x) []))):List (Str×V)).lookup ("pairs" :Str)=some (.ref P):=by
 rw[av,if_neg (by decide +kernel),av,if_neg (by decide +kernel),av,if_pos rfl]
theorem EG{x:Str}{P o m:Addr}:(aF "more" (.ref m) (aF "opening" (.ref o) (aF "pairs" (.ref P) (aF "signs" (.str x) []))):List (Str×V)).lookup ("opening" :Str)=some (.ref o):=by
 rw[av,if_neg (by decide +kernel),av,if_pos rfl]
theorem LH{x:Str}{P o m:Addr}:(aF "more" (.ref m) (aF "opening" (.ref o) (aF "pairs" (.ref P) (aF "signs" (.str x) []))):List (Str×V)).lookup ("more" :Str)=some (.ref m):=by
 rw[av,if_pos rfl]
theorem EH{x:Str}{P o m fl:Addr}:(aF "factors" (.ref fl) (aF "more" (.ref m) (aF "opening" (.ref o) (aF "pairs" (.ref P) (aF "signs" (.str x) [])))):List (Str×V)).lookup ("factors" :Str)=some (.ref fl):=by
 rw[av,if_pos rfl]
theorem Jp{x:Str}{P o m fl:Addr}{u:Int}:(aF "unit" (.int u) (aF "factors" (.ref fl) (aF "more" (.ref m) (aF "opening" (.ref o) (aF "pairs" (.ref P) (aF "signs" (.str x) []))))):List (Str×V)).lookup ("signs" :Str)=some (.str x):=by
 rw[av,if_neg (by decide +kernel),av,if_neg (by decide +kernel),av,if_neg (by decide +kernel),av,if_neg (by decide +kernel),av,if_neg (by decide +kernel),av,if_pos rfl]
theorem G2{x:Str}{P o m fl:Addr}{u:Int}:(aF "unit" (.int u) (aF "factors" (.ref fl) (aF "more" (.ref m) (aF "opening" (.ref o) (aF "pairs" (.ref P) (aF "signs" (.str x) []))))):List (Str×V)).lookup ("pairs" :Str)=some (.ref P):=by
 rw[av,if_neg (by decide +kernel),av,if_neg (by decide +kernel),av,if_neg (by decide +kernel),av,if_neg (by decide +kernel),av,if_pos rfl]
theorem LG{x:Str}{P o m fl:Addr}{u:Int}:(aF "unit" (.int u) (aF "factors" (.ref fl) (aF "more" (.ref m) (aF "opening" (.ref o) (aF "pairs" (.ref P) (aF "signs" (.str x) []))))):List (Str×V)).lookup ("unit" :Str)=some (.int u):=by
 rw[av,if_pos rfl]
theorem aU{f:Str}{v:V}{fs:List (Str×V)}{n:Nat}(h:fs.length<=n):(aF f v fs).length<=n+1:=by
 have:=qh f v fs
 omega
structure m7(K:PySem.W.Frag)(C:Addr)(H:Hp)(x:Addr)(sg:Str)(rows:List (List cJ))(fo fm:cJ):Prop where
 sig:z6 sg
 Y5:K1 sg.cps.size rows
 ok:∀r∈rows,∀f∈r,TM (cF fo.2 fm.2 rows) f
 Jh:TM (cF fo.2 fm.2 rows) fo
 Ji:TM (cF fo.2 fm.2 rows) fm
 pos:0<cF fo.2 fm.2 rows
 big:Bu (cF fo.2 fm.2 rows)
 ob:∃dx P o m,∃d:Addr×Addr,∃kvs,H x=some (.ins C dx (vS sg P o m (cF fo.2 fm.2 rows) d (fo.1*(cF fo.2 fm.2 rows / fo.2)) (fm.1*(cF fo.2 fm.2 rows / fm.2))))/\Bv K H P rows/\kB K H o fo/\kB K H m fm/\H d.1=some (.dT kvs)/\Fj kvs sg rows (cF fo.2 fm.2 rows) ∧
  ∃fs:List Int,(∀f∈fs,oh f)/\qW fs=cF fo.2 fm.2 rows/\H d.2=some (.lst (fs.map V.int))
theorem m7.same{K:PySem.W.Frag}{C:Addr}{H H':Hp}{x:Addr}{sg:Str}{rows:List (List cJ)}{fo fm:cJ}(e:ai H H')(h:m7 K C H x sg rows fo fm):m7 K C H' x sg rows fo fm:=by
 obtain⟨a,b,c,d,f,g,i,dx,P,o,m,dd,kvs,h1,h2,h3,h4,h5,h6,fs,h7,h8,h9⟩:=h
 exact⟨a,b,c,d,f,g,i,dx,P,o,m,dd,kvs,e _ _ h1,h2.dat (Dat.of e),h3.same e,h4.same e,e _ _ h5,h6,fs,h7,h8,e _ _ h9⟩
def KG(H:Hp)(x c:Addr):Prop:=∀C dx fs,H x=some (.ins C dx fs)->fs.lookup ("factors" :Str)≠some (.ref c)
def TL(f:cJ):Prop:=DL f/\Sm f.1
def yK(rows:List (List cJ)):List (List cJ):=rows.map λr=>r.map kD
def IL(K:PySem.W.Frag)(C:Addr):Sp:=λvs H Q _=>∃(x dx o m:Addr) (sg:Str) (c:Cp) (rows:List (List cJ)) (fo fm:cJ),vs=[.ref x,.str sg,c.val,.ref o,.ref m]/\H x=some (.ins C dx [])/\z6 sg/\sg.cps.size<=12 ∧
 HL K H c rows/\K1 sg.cps.size rows/\(∀r∈rows,∀f∈r,TL f)/\kB K H o fo/\TL fo/\kB K H m fm/\TL fm ∧
 ∀H',m7 K C H' x sg (yK rows) (kD fo) (kD fm)->(∀b u,H b=some u->b≠x->H' b=some u)->(∀c,H c≠none->KG H' x c)->Q .iz H'
def rK(K:PySem.W.Frag)(C:Addr):Sp:=λvs H Q _=>∃(x:Addr) (sg:Str) (rows:List (List cJ)) (fo fm:cJ) (i j a b:Nat) (f:cJ),vs=[.ref x,.str ⟨#[a]⟩,.str ⟨#[b]⟩]/\m7 K C H x sg rows fo fm ∧
 sg.cps[i]? =some a/\sg.cps[j]? =some b/\K4 rows i j f/\∀H',ai H H'->Q (.int (f.1*(cF fo.2 fm.2 rows / f.2))) H'
def uq(K:PySem.W.Frag)(C:Addr):Sp:=λvs H Q _=>∃(x:Addr) (sg:Str) (rows:List (List cJ)) (fo fm:cJ),vs=[.ref x]/\m7 K C H x sg rows fo fm/\Q (.int (fo.1*(cF fo.2 fm.2 rows / fo.2))) H
def Ef(K:PySem.W.Frag)(C:Addr):Sp:=λvs H Q _=>∃(x:Addr) (sg:Str) (rows:List (List cJ)) (fo fm:cJ),vs=[.ref x]/\m7 K C H x sg rows fo fm/\Q (.int (fm.1*(cF fo.2 fm.2 rows / fm.2))) H
def ur(K:PySem.W.Frag)(C:Addr):Sp:=λvs H Q _=>∃(x:Addr) (n:Int) (sg:Str) (rows:List (List cJ)) (fo fm:cJ),vs=[.ref x,.int n]/\m7 K C H x sg rows fo fm ∧
 ∀q H',ai H H'->H q=none->H' q=some (.tup [.int (kD (n,cF fo.2 fm.2 rows)).1,.int (kD (n,cF fo.2 fm.2 rows)).2])->Q (.ref q) H'
end GP
namespace GP
open PySem L2 sy
theorem kL{α β:Type}{l:List α}{g:α->β}{i:Nat}{y:β}(h:(l.map g)[i]? =some y):∃x,l[i]? =some x/\y=g x:=by
 rw[List.getElem?_map]at h
 cases e:l[i]? with
 |none=>rw[e]at h;cases h
 |some x=>rw[e]at h;exact⟨x,rfl,(Option.some.inj h).symm⟩
def kW(kvs:List (List Key×V))(x:Str)(rows:List (List cJ))(u:Int)(n m:Nat):Prop :=
 ∀i j a b f,(i<n\/(i=n/\j<m))->x.cps[i]? =some a->x.cps[j]? =some b->K4 rows i j f->lU kvs (keyOf a b)=some (.int (f.1*(u / f.2)))
theorem kW.nil(x:Str)(rows:List (List cJ))(u:Int):kW [] x rows u 0 0:=λi j a b f h=>by omega
theorem Hf{a b c d:Nat}(h:keyOf a b=keyOf c d):a=c/\b=d:=by
 unfold keyOf at h
 have h1:=(List.cons.inj h).1
 have h2:=(List.cons.inj (List.cons.inj h).2).1
 have e1:(⟨#[a]⟩:Str)=⟨#[c]⟩:=Sum.inr.inj h1
 have e2:(⟨#[b]⟩:Str)=⟨#[d]⟩:=Sum.inr.inj h2
 have z1: #[a]= #[c]:=congrArg Str.cps e1
 have z2: #[b]= #[d]:=congrArg Str.cps e2
 exact⟨by simpa using z1,by simpa using z2⟩
theorem kW.put{kvs:List (List Key×V)}{x:Str}{rows:List (List cJ)}{u:Int}{n m a b:Nat}{f:cJ}(nd:x.cps.toList.Nodup)(h:kW kvs x rows u n m)(ha:x.cps[n]? =some a)(hb:x.cps[m]? =some b)(hf:K4 rows n m f):
  kW (putK kvs (keyOf a b) (.int (f.1*(u / f.2)))) x rows u n (m+1):=by
 intro i j c d g hij hc hd hg
 rw[BX]
 by_cases e:i=n/\j=m
 ·obtain⟨rfl,rfl⟩:=e
  rw[ha]at hc
  rw[hb]at hd
  cases hc
  cases hd
  obtain⟨r,r1,r2⟩:=hf
  obtain⟨r',r3,r4⟩:=hg
  rw[r1]at r3
  cases r3
  rw[r2]at r4
  cases r4
  rw[if_pos rfl]
 ·have hne:¬keyOf c d=keyOf a b:=λz=>by
   obtain⟨z1,z2⟩:=Hf z
   subst z1 z2
   refine e ⟨?_,?_⟩
   ·exact Decidable.byContradiction λq=>pR nd hc ha q rfl
   ·exact Decidable.byContradiction λq=>pR nd hd hb q rfl
  rw[if_neg hne]
  exact h i j c d g (by omega) hc hd hg
theorem kW.row{kvs:List (List Key×V)}{x:Str}{rows:List (List cJ)}{u:Int}{n m:Nat}(hm:x.cps.size<=m)(h:kW kvs x rows u n m):kW kvs x rows u (n+1) 0:=by
 intro i j a b f hij ha hb hf
 refine h i j a b f ?_ ha hb hf
 have:j<x.cps.size:=by
  rw[←Array.getElem?_toList]at hb
  have:=(List.getElem?_eq_some_iff.mp hb).1
  simpa using this
 omega
theorem kW.all{kvs:List (List Key×V)}{x:Str}{rows:List (List cJ)}{u:Int}{n:Nat}(hn:x.cps.size<=n)(h:kW kvs x rows u n 0):Fj kvs x rows u:=by
 intro i j a b f ha hb hf
 refine h i j a b f (.inl ?_) ha hb hf
 have:i<x.cps.size:=by
  rw[←Array.getElem?_toList]at ha
  have:=(List.getElem?_eq_some_iff.mp ha).1
  simpa using this
 omega
theorem Jy{a b:Int}(ha:0<a)(hb:0<b):0<lm a b:=by
 have h:=o5 a hb
 have:=Int.ediv_pos_of_pos_of_dvd ha (Int.le_of_lt h) (Int.gcd_dvd_left a b)
 exact Int.mul_pos this hb
theorem su(a g:Int):(a / g).natAbs<=a.natAbs:=Int.natAbs_ediv_le_natAbs a g
theorem Jz(a b:Int):(lm a b).natAbs<=a.natAbs*b.natAbs:=by
 unfold lm
 rw[Int.natAbs_mul]
 exact Nat.mul_le_mul_right _ (su a _)
theorem Dj:∀(l:List Int) {u:Int},0<u->(∀b∈l,0<b)->0<l.foldl lm u
 |[],_,h,_=>h
 |b::l,_,h,hb=>Dj l (Jy h (hb b List.mem_cons_self)) λc hc=>hb c (List.mem_cons_of_mem _ hc)
theorem Dk{B:Nat}:∀(l:List Int) {u:Int},(∀b∈l,b.natAbs<=B)->(l.foldl lm u).natAbs<=u.natAbs*B ^ l.length
 |[],_,_=>by simp
 |b::l,u,h=>by
  have h1:=Dk (B:=B) l (u:=lm u b) λc hc=>h c (List.mem_cons_of_mem _ hc)
  have h2:=Jz u b
  have h3:=h b List.mem_cons_self
  show(l.foldl lm (lm u b)).natAbs<=_
  refine Nat.le_trans h1 ?_
  rw[List.length_cons,Nat.pow_succ,Nat.mul_comm (B ^ l.length) B,←Nat.mul_assoc]
  exact Nat.mul_le_mul_right _ (Nat.le_trans h2 (Nat.mul_le_mul_left _ h3))
theorem xU{n:Nat}:∀{rows:List (List cJ)},(∀r∈rows,r.length=n)->rows.flatten.length=rows.length*n
 |[],_=>by simp
 |r::rows,h=>by
  rw[List.flatten_cons,List.length_append,h r List.mem_cons_self,xU λr' hr=>h r' (List.mem_cons_of_mem _ hr),List.length_cons,Nat.succ_mul,Nat.add_comm]
theorem DL.abs{f:cJ}(h:DL f):f.2.natAbs<=2 ^ 30:=by
 obtain⟨h1,h2⟩:=h
 have:(2:Nat) ^ 30=1073741824:=by decide
 omega
theorem Im{rows:List (List cJ)}{fo fm:cJ}(ho:DL fo)(hm:DL fm)(h:∀r∈rows,∀f∈r,DL f):0<cF fo.2 fm.2 rows:=by
 refine Dj _ (Jy (by have:=ho.1;omega) (by have:=hm.1;omega)) λb hb=>?_
 obtain⟨f,hf,rfl⟩:=List.mem_map.mp hb
 obtain⟨r,hr,hfr⟩:=List.mem_flatten.mp hf
 have:=(h r hr f hfr).1
 omega
theorem Io{n:Nat}{rows:List (List cJ)}{fo fm:cJ}(hn:n<=12)(hs:K1 n rows)(ho:DL fo)(hm:DL fm)(h:∀r∈rows,∀f∈r,DL f):Bu (cF fo.2 fm.2 rows):=by
 have h1:(cF fo.2 fm.2 rows).natAbs<=(lm fo.2 fm.2).natAbs*(2 ^ 30) ^ (rows.flatten.map (·.2)).length:=by
  refine Dk _ λb hb=>?_
  obtain⟨f,hf,rfl⟩:=List.mem_map.mp hb
  obtain⟨r,hr,hfr⟩:=List.mem_flatten.mp hf
  exact(h r hr f hfr).abs
 have h2:(lm fo.2 fm.2).natAbs<=2 ^ 30*2 ^ 30:=Nat.le_trans (Jz _ _) (Nat.mul_le_mul ho.abs hm.abs)
 have h3:(rows.flatten.map (·.2)).length<=144:=by
  rw[List.length_map,xU hs.2,hs.1]
  exact Nat.le_trans (Nat.mul_le_mul hn hn) (by decide)
 have h4:(2 ^ 30:Nat) ^ (rows.flatten.map (·.2)).length<=(2 ^ 30) ^ 144:=Nat.pow_le_pow_right (by decide) h3
 have h5:(2 ^ 30:Nat)*2 ^ 30*(2 ^ 30) ^ 144<=2 ^ 4380:=by
  rw[←Nat.pow_mul,←Nat.pow_add,←Nat.pow_add]
  exact Nat.pow_le_pow_right (by decide) (by decide)
 exact Nat.le_trans h1 (Nat.le_trans (Nat.mul_le_mul h2 h4) h5)
theorem qg{f:cJ}(h:DL f):DL (kD f):=by
 obtain⟨h1,h2⟩:=h
 have h0:0<f.2:=by omega
 have p:=Jv f.1 h0
 have l:=lo_le f.1 h0
 exact⟨by show 1<=(lo f.1 f.2).2;omega,by show(lo f.1 f.2).2<_;omega⟩
theorem LL{f:cJ}(h:Sm f.1):Sm (kD f).1:=Nat.lt_of_le_of_lt (su _ _) h
theorem Bu.div{u:Int}(h:Bu u)(g:Int):Bu (u / g):=Nat.le_trans (su _ _) h
theorem LJ{n:Nat}{rows:List (List cJ)}(h:K1 n rows):K1 n (yK rows):=by
 refine⟨by unfold yK;rw[List.length_map];exact h.1,λr hr=>?_⟩
 obtain⟨r',h',rfl⟩:=List.mem_map.mp hr
 rw[List.length_map]
 exact h.2 r' h'
theorem AZ{p:cJ->Prop}{rows:List (List cJ)}(h:∀r∈rows,∀f∈r,p (kD f)):∀r∈yK rows,∀f∈r,p f:=by
 intro r hr f hf
 obtain⟨r',h',rfl⟩:=List.mem_map.mp hr
 obtain⟨f',hf',rfl⟩:=List.mem_map.mp hf
 exact h r' h' f' hf'
theorem K4.mem{rows:List (List cJ)}{i j:Nat}{f:cJ}(h:K4 rows i j f):∃r∈rows,f∈r:=by
 obtain⟨r,h1,h2⟩:=h
 exact⟨r,List.mem_of_getElem? h1,List.mem_of_getElem? h2⟩
end GP
namespace GP
open PySem L2 sy
theorem dR.off{K:PySem.W.Frag}{H:Hp}{l a:Addr}{ys xs:List V}{o:HO}(hl:H l=some (.lst ys))(h:dR K H a xs):dR K (L2.upd H l o) a xs:=by
 rcases h with(h|⟨u,h⟩)|h
 ·exact .inl (.inl (by rw[ao (pZ h hl (by intro z;cases z))];exact h))
 ·exact .inl (.inr ⟨u,by rw[ao (pZ h hl (by intro z;cases z))];exact h⟩)
 ·exact .inr h
theorem ki.off{K:PySem.W.Frag}{H:Hp}{l q:Addr}{ys:List V}{fs:List cJ}{o:HO}(hl:H l=some (.lst ys))(h:ki K H (.tup q) fs):ki K (L2.upd H l o) (.tup q) fs:=by
 obtain⟨ps,a,b⟩:=h
 exact⟨ps,dR.off hl a,Paired.dP b λ_ _ z=>dR.off hl z⟩
def Off(x:Addr)(H H':Hp):Prop:=∀b u,H b=some u->b≠x->H' b=some u
theorem Off.of{x:Addr}{H H':Hp}(e:ai H H'):Off x H H':=λb u h _=>e b u h
theorem Off.trans{x:Addr}{H H' Np:Hp}(e:Off x H H')(f:Off x H' Np):Off x H Np:=λb u h n=>f b u (e b u h n) n
theorem Off.set{x:Addr}{H:Hp}{o:HO}:Off x H (L2.upd H x o):=λb u h n=>by rw[ao n];exact h
theorem Off.dat{x C dx:Addr}{fs:List (Str×V)}{H H':Hp}(hx:H x=some (.ins C dx fs))(e:Off x H H'):Dat H H':=λb u n h=>e b u h λz=>by
 subst z
 rw[hx]at h
 cases h
 exact n _ _ _ rfl
theorem Zf{a:Str}{x:V}:(aF a x []).length<1000:=Nat.lt_of_le_of_lt (aU (Nat.le_refl 0)) (by decide)
theorem pl2{a b:Str}{x y:V}:(aF a x (aF b y [])).length<1000:=Nat.lt_of_le_of_lt (aU (aU (Nat.le_refl 0))) (by decide)
theorem pl3{a b c:Str}{x y z:V}:(aF a x (aF b y (aF c z []))).length<1000:=Nat.lt_of_le_of_lt (aU (aU (aU (Nat.le_refl 0)))) (by decide)
theorem pl4{a b c d:Str}{x y z w:V}:(aF a x (aF b y (aF c z (aF d w [])))).length<1000:=Nat.lt_of_le_of_lt (aU (aU (aU (aU (Nat.le_refl 0))))) (by decide)
theorem pl5{a b c d e:Str}{x y z w v:V}:(aF a x (aF b y (aF c z (aF d w (aF e v []))))).length<1000:=Nat.lt_of_le_of_lt (aU (aU (aU (aU (aU (Nat.le_refl 0)))))) (by decide)
theorem pl6{a b c d e g:Str}{x y z w v t:V}:(aF a x (aF b y (aF c z (aF d w (aF e v (aF g t [])))))).length<1000:=Nat.lt_of_le_of_lt (aU (aU (aU (aU (aU (aU (Nat.le_refl 0))))))) (by decide)
theorem pl7{x:Str}{P o m:Addr}{u:Int}{d:Addr×Addr}:(jh x P o m u d).length<1000:=Nat.lt_of_le_of_lt (aU (aU (aU (aU (aU (aU (aU (Nat.le_refl 0)))))))) (by decide)
theorem pl8{x:Str}{P o m:Addr}{u:Int}{d:Addr×Addr}{a:Str}{v:V}:(aF a v (jh x P o m u d)).length<1000:=Nat.lt_of_le_of_lt (aU (aU (aU (aU (aU (aU (aU (aU (Nat.le_refl 0))))))))) (by decide)
end GP
namespace GP
open PySem L2 sy
theorem Gp{a b c:Int}(h:Int.gcd a b=1)(d:a∣b*c):a∣c:=by
 have d':a.natAbs∣b.natAbs*c.natAbs:=by rw[←Int.natAbs_mul];exact Int.natAbs_dvd_natAbs.mpr d
 have h':Nat.Coprime a.natAbs b.natAbs:=h
 exact Int.natAbs_dvd_natAbs.mp (h'.dvd_of_dvd_mul_left d')
theorem Jt{x y x' y':Int}(hy:0<y)(hy':0<y')(h:Int.gcd x y=1)(h':Int.gcd x' y'=1)(e:x*y'=x'*y):x=x'/\y=y':=by
 have d1:y∣y':=Gp (b:=x) (by rw[Int.gcd_comm];exact h) (by rw[e];exact Int.dvd_mul_left _ _)
 have d2:y'∣y:=Gp (b:=x') (by rw[Int.gcd_comm];exact h') (by rw[←e];exact Int.dvd_mul_left _ _)
 have ey:=Int.dvd_antisymm (Int.le_of_lt hy) (Int.le_of_lt hy') d1 d2
 subst ey
 exact⟨Int.eq_of_mul_eq_mul_right (Int.ne_of_gt hy) e,rfl⟩
theorem Kn{ov un b:Int}(hb:0<b)(hg:Int.gcd ov un=1):Int.gcd (ov / (Int.gcd ov b:Int)) (un*(b / (Int.gcd ov b:Int)))=1:=by
 have h1:Int.gcd (ov / (Int.gcd ov b:Int)) (b / (Int.gcd ov b:Int))=1:=Jw ov hb
 have h2:Int.gcd (ov / (Int.gcd ov b:Int)) un=1:=by
  refine Nat.dvd_one.mp ?_
  rw[←hg]
  refine Int.dvd_gcd (Int.dvd_trans (Int.gcd_dvd_left ..) ?_) (Int.gcd_dvd_right ..)
  exact⟨_,(EL ov b).symm⟩
 have z:Nat.Coprime (ov / (Int.gcd ov b:Int)).natAbs (un.natAbs*(b / (Int.gcd ov b:Int)).natAbs):=Nat.Coprime.mul_right h2 h1
 rw[←Int.natAbs_mul]at z
 exact z
theorem E2{ov un b n p:Int}(he:ov*p=n*un):ov / (Int.gcd ov b:Int)*(p*b)=n*(un*(b / (Int.gcd ov b:Int))):=by
 have h1:=EL ov b
 have h2:=Ju ov b
 unfold lo at h1 h2
 dsimp only at h1 h2
 generalize ov / (Int.gcd ov b:Int)=x at *
 generalize b / (Int.gcd ov b:Int)=y at *
 generalize (Int.gcd ov b:Int)=g at *
 rw[←Int.mul_assoc n,←he,←h1,←h2]
 ac_rfl
theorem RU{n U ov un:Int}(hU:0<U)(hun:0<un)(hg:Int.gcd ov un=1)(he:ov*U=n*un):kD (n,U)=(ov,un):=by
 have c:=Jx n U
 have e:(lo n U).1*un=ov*(lo n U).2:=by
  refine Int.eq_of_mul_eq_mul_right (Int.ne_of_gt hU) ?_
  calc (lo n U).1*un*U=(lo n U).1*U*un:=by ac_rfl
   _=n*un*(lo n U).2:=by rw[c];ac_rfl
   _=ov*(lo n U).2*U:=by rw[←he];ac_rfl
 obtain⟨z1,z2⟩:=Jt (Jv n hU) hun (Jw n hU) hg e
 show lo n U=(ov,un)
 rw[←z1,←z2]
end GP
namespace L2
open PySem PySem.Spec PyProof.Rows
def rm(scope:Scope)(X:Cx):Bool:=scope.names.all λy=>(y.2 != NameKind.free)||(X.env.scope.names.lookup y.1==some NameKind.cell)
def ixB(scope:Scope)(X:Cx)(N:List Str)(nt:Nat)(ix:List Nat):Bool:=(List.range ix.length).all λk=>match N[nt+k]?,ix[k]? with
 |some x,some j=>(X.N[j]? ==some x)&&(scope.names.contains (x,NameKind.free))&&((relabel scope X.env).names.lookup x==some NameKind.cell)
 |_,_=>false
theorem cG.rm{X:Cx}{scope:Scope}{N:List Str}{nt:Nat}{ix:List Nat}(kind:scope.kind= .function)(cell:∀y∈scope.names,y.2= .cell->(y.1,NameKind.free)∉scope.names)
  (names:∀y∈scope.names,y.2= .local->scope.names.lookup y.1=some .local) (hf:L2.rm scope X=true) (hl:N.length=nt+ix.length) (hx:ixB scope X N nt ix=true) (ok:X.Ok) :
  ∃cl,cG X scope cl N (Uh nt ix):=by
 refine cG.free kind cell names (λy hy hk=>?_) hl (λk j hj=>?_) ok
 ·have z:=List.all_eq_true.mp hf y hy
  rw[hk]at z
  have z2:X.env.scope.names.lookup y.1=some NameKind.cell:=by simpa using z
  exact z2
 ·have hk:k<ix.length:=(List.getElem?_eq_some_iff.mp hj).1
  have z:=List.all_eq_true.mp hx k (List.mem_range.mpr hk)
  have hn:nt+k<N.length:=by omega
  rw[List.getElem?_eq_getElem hn,hj]at z
  simp only[Bool.and_eq_true]at z
  obtain⟨⟨z1,z2⟩,z3⟩:=z
  exact⟨_,List.getElem?_eq_getElem hn,by simpa using z1,by simpa using z2,by simpa using z3⟩
theorem Kp.An{r:St}{v:Option V}:Kp (none::r) ((none::r).set 0 v):=λi x e=>by
 cases i with
 |zero=>cases e
 |succ i=>exact e
theorem bD{X:Cx}:lP X (.builtin "isinstance") (λxs H Q=>∃x n t b,xs=[x,.ty n]/\(tR X.K H x t\/∃a ys,x= .ref a/\dR X.K H a ys/\t= .type "tuple")/\PySem.W.kitOne X.K t (.type n)=some b/\Q (.bl b) H):=by
 intro pins s σ H xs us Q I r h
 obtain⟨x,n,t,b,rfl,ty,e,q⟩:=h
 obtain⟨u,w',rfl,rx,rn⟩:=vals2 r
 cases rn
 rcases ty with ty|⟨a,ys,rfl,hs,rfl⟩
 ·exact TK.bY (Nat.le_refl s.toks) (Hi I rx ty e λtk hup=>⟨.bl b,H,I.tok _,rfl,q⟩)
 ·cases (show u=Value.ref a from rx)
  obtain⟨its,_,⟨o,h1,h2,_⟩,_⟩:=I.tuple hs
  exact TK.bY (Nat.le_refl s.toks) (PySem.W.kia_one PySem.W.kitx_tuple I.pI ⟨o,h1,h2⟩ e (λz=>nomatch z) λtk hup=>⟨.bl b,H,I.tok _,rfl,q⟩)
end L2
namespace GP
open PySem L2 sy
theorem j7{K:PySem.W.Frag}{t:Value}:PySem.W.kitOne K t t=some true:=by unfold PySem.W.kitOne;rw[if_pos (by simp)]
theorem tG{K:PySem.W.Frag}:PySem.W.kitOne K (.type "int") (.type "bool")=some false:=by kernel_rfl
theorem tF{K:PySem.W.Frag}:PySem.W.kitOne K (.type "int") (.type "list")=some false:=by kernel_rfl
theorem rj{K:PySem.W.Frag}:PySem.W.kitOne K (.type "int") (.type "tuple")=some false:=by kernel_rfl
theorem ve{K:PySem.W.Frag}:PySem.W.kitOne K (.type "int") (.type "str")=some false:=by kernel_rfl
theorem m5{K:PySem.W.Frag}:PySem.W.kitOne K (.type "tuple") (.type "list")=some false:=by kernel_rfl
def Wo(t:Addr)(H:Hp):Hp:=λb=>if b=t then none else H b
theorem Wo.sub{t:Addr}{H:Hp}:ai (Wo t H) H:=λb u h=>by
 unfold Wo at h
 by_cases e:b=t
 ·rw[if_pos e]at h;cases h
 ·rw[if_neg e]at h;exact h
theorem Wo.ne{t:Addr}{H:Hp}{b:Addr}{u:HO}(h:Wo t H b=some u):b≠t:=λe=>by
 unfold Wo at h
 rw[if_pos e]at h;cases h
theorem Wo.in{t:Addr}{H:Hp}{b:Addr}{u:HO}(n:b≠t)(h:H b=some u):Wo t H b=some u:=by
 unfold Wo
 rw[if_neg n];exact h
theorem Wo.free{t:Addr}{H:Hp}{b:Addr}(h:H b=none):Wo t H b=none:=by
 unfold Wo
 split
 ·rfl
 ·exact h
theorem Wo.set{t:Addr}{H:Hp}{o:HO}:Wo t (L2.upd H t o)=Wo t H:=by
 funext b
 unfold Wo
 by_cases e:b=t
 ·rw[if_pos e,if_pos e]
 ·rw[if_neg e,if_neg e,ao e]
theorem Wo.same{t:Addr}{H H':Hp}(e:ai H H'):ai (Wo t H) (Wo t H'):=λb u h=>Wo.in (Wo.ne h) (e b u (Wo.sub b u h))
theorem Wo.upd{t:Addr}{H:Hp}{o:HO}:ai (Wo t H) (L2.upd H t o):=λb u h=>by rw[ao (Wo.ne h)];exact Wo.sub b u h
theorem wG{H:Hp}{t r:Addr}{o:HO}(h:L2.upd H t o r=none):H r=none:=by
 by_cases e:r=t
 ·rw[e,ah]at h;cases h
 ·rw[ao e]at h;exact h
structure wk(K:PySem.W.Frag)(H:Hp)(s t:Addr)(ns:List Int)(k:Int):Prop where
 sq:bI K (Wo t H) s (ns.map V.int)
 len:ns.length<=63
 at_:H t=some (.lst [.int k])
 k0:0<=k
theorem wk.Rx{K:PySem.W.Frag}{H:Hp}{s t:Addr}{ns:List Int}{k:Int}(c:wk K H s t ns k)(o:HO):bI K (L2.upd H t o) s (ns.map V.int):=ai.seq Wo.upd c.sq
theorem wk.same{K:PySem.W.Frag}{H H':Hp}{s t:Addr}{ns:List Int}{k:Int}(c:wk K H s t ns k)(e:ai H H'):wk K H' s t ns k:=⟨ai.seq (Wo.same e) c.sq,c.len,e _ _ c.at_,c.k0⟩
theorem wk.step{K:PySem.W.Frag}{H:Hp}{s t:Addr}{ns:List Int}{k k':Int}(c:wk K H s t ns k)(h:0<=k'):wk K (L2.upd H t (.lst [.int k'])) s t ns k':=⟨by rw[Wo.set];exact c.sq,c.len,ah,h⟩
theorem wk.off{K:PySem.W.Frag}{H H':Hp}{s t:Addr}{ns:List Int}{k k':Int}(c:wk K H s t ns k)(e:ai (Wo t H) (Wo t H'))(h:H' t=some (.lst [.int k']))(h0:0<=k'):wk K H' s t ns k':=⟨ai.seq e c.sq,c.len,h,h0⟩
theorem xY{c:Int}(h1: -(10 ^ 40)<=c)(h2:c<=10 ^ 40):Sm c:=by
 have h:c.natAbs<=10 ^ 40:=by omega
 have h3:(10:Nat) ^ 40<2 ^ 200:=by decide
 exact Nat.lt_of_le_of_lt h h3
def K2(f:cJ):Prop:=1<=f.2/\f.2<=999/\Sm f.1
theorem K2.h{f:cJ}(h:K2 f):TL f:=⟨⟨h.1,by have:=h.2.1;omega⟩,h.2.2⟩
def pN(K:PySem.W.Frag):Sp:=λvs H Q _=>∃(s t:Addr) (ns:List Int) (k:Int),vs=[.ref s,.ref t]/\wk K H s t ns k/\k<=100000 ∧
 ∀m:Int,0<=m->m<1999999973->Q (.int m) (L2.upd H t (.lst [.int (k+1)]))
structure tX(K:PySem.W.Frag)(H:Hp)(l:Addr)(rs:List Addr)(rows:List (List cJ)):Prop where
 len:rs.length=rows.length
 at_:H l=some (.lst (rs.map V.ref))
 nd:rs.Nodup
 nl:l∉rs
 row:∀(i:Nat) r row,rs[i]? =some r->rows[i]? =some row->∃ps:List Addr,H r=some (.lst (ps.map V.ref))/\Paired (kB K H) ps row
theorem tX.same{K:PySem.W.Frag}{H H':Hp}{l:Addr}{rs:List Addr}{rows:List (List cJ)}(e:ai H H')(h:tX K H l rs rows):tX K H' l rs rows :=
 ⟨h.len,e _ _ h.at_,h.nd,h.nl,λi r row h1 h2=>by
  obtain⟨ps,a,b⟩:=h.row i r row h1 h2
  exact⟨ps,e _ _ a,Paired.dP b λ_ _ z=>z.same e⟩⟩
theorem ux{α β:Type}{F:α->β->Prop}:∀{l₁:List α} {l₂:List β},l₁.length=l₂.length->(∀(i:Nat) x y,l₁[i]? =some x->l₂[i]? =some y->F x y)->Paired F l₁ l₂
 |[],[],_,_=>.nil
 |x::l₁,y::l₂,hl,h=>.cons (h 0 x y rfl rfl) (ux (by simpa using hl) λi a b h1 h2=>h (i+1) a b h1 h2)
theorem tX.WX{K:PySem.W.Frag}{H:Hp}{l:Addr}{rs:List Addr}{rows:List (List cJ)}(h:tX K H l rs rows):HL K H (.lst l) rows:=by
 refine⟨λx z=>(by cases z),rs.map Cp.lst,λd hd x z=>?_,?_,?_⟩
 ·obtain⟨q,_,e⟩:=List.mem_map.mp hd
  rw[←e]at z
  cases z
 ·rw[List.map_map]
  exact bI.of h.at_
 ·refine rP (ux h.len λi r row h1 h2=>?_)
  obtain⟨ps,a,b⟩:=h.row i r row h1 h2
  exact⟨ps,bI.of a,b⟩
end GP
namespace L2
open PySem PySem.Spec PyProof.Rows
set_option maxHeartbeats 2000000 in
theorem zQ{X:Cx}{elt tg iter:Expr}{scope:Scope}{pos pos':Pos}{wi:TI}{g:TG}{te:TE}{N:List Str}{om:St->St}(hc:X.calm=true)(hS:X.Ok->∃cl,cG X scope cl N om)(hi:PI X tg iter wi)
  (hg:∀cl C s H ex pn E,PG (ju X scope cl C N s H ex pn E) tg g) (he:∀cl C s H ex pn E,PE (ju X scope cl C N s H ex pn E) elt te) (hs:∀x,foldedSetIterable iter X.env x=pure x)
  {pins:List (Addr×Obj)} {s:Shared} {σ:St} {H:Hp} {Q:VK} {use:Option (Value->Sem Unit)} {QQ:Value->Shared->Prop} (I:Inv X pins σ H s) (h:Iw wi g te om σ H Q)
  (Qd:∀(l C:Addr) (mC:Str->Option Value) (H':Hp) (s':Shared),Inv X pins σ H' s'->pK X pins H' C->s'.heap.Ns C mC->Q (.ref l) H'->compPost (model X.prog X.w) X.A X.xe use QQ (.ref l) C (.ok .next) s') :
  wpAny (model X.prog X.w) X.A (comprehension (.ListComp elt [⟨tg,iter,[],0⟩] scope pos) scope X.env pos' (newList []) false (eval iter X.env) use) QQ X.xe s:=by
 obtain⟨cl,S⟩:=hS I.ok
 refine wpAny_comprehension_free (use:=use) rfl hs S.clos S.kind S.names (fh (hi pins s σ H _ I h) λv s1 h1=>fh h1 λitv s2 h2=>?_)
 obtain⟨it,fp,tn,J,H2,e,I2,T,st2,f2,hq⟩:=h2
 subst e
 obtain⟨W,⟨m0,w0⟩,turn⟩:=hq _ I2.fresh
 refine wpAny_newObj_type (Dv S λBj h₁ G EN kp=>?_)
 have I3:Inv X pins σ (upd H2 s2.heap.objs.size (.lst [])) { s2 with heap:=s2.heap.push { cls:=.type "list",data:=.seq ([]:List Value).toArray } }:=I2.Po (t':=s2.toks) .nil (Nat.zero_le _)
 have CH:∀b o,s2.heap.get? b=some o->(s2.heap.push { cls:=.type "list",data:=.seq ([]:List Value).toArray }).get? b=some o:=λb o e=>Heap.get?_push_of_some _ e
 have f3:∀b∈fp,pK X pins (upd H2 s2.heap.objs.size (.lst [])) b/\b<(s2.heap.push { cls:=.type "list",data:=.seq ([]:List Value).toArray }).objs.size:=λb hb=>by
  obtain⟨o,ho,_⟩:=T.obj _ _ st2 b hb
  have hlt:=Heap.lt_size ho
  obtain⟨f0,f1⟩:=f2 b hb
  exact⟨⟨by rw[ao (Nat.ne_of_lt hlt)];exact f0,f1⟩,Heap.lt_size (CH b o ho)⟩
 have st3:tn 0 h₁:=T.keep _ _ _ st2 λb _ o e=>kp b o (CH b o e)
 generalize hR:(λr s'=>compPost (model X.prog X.w) X.A X.xe use QQ (.ref s2.heap.objs.size) (s2.heap.push { cls:=.type "list",data:=.seq ([]:List Value).toArray }).objs.size r s')=R
 generalize qS:ju X scope Bj (s2.heap.push { cls:=.type "list",data:=.seq ([]:List Value).toArray }).objs.size N { s2 with heap:=s2.heap.push { cls:=.type "list",data:=.seq ([]:List Value).toArray } }
  (upd H2 s2.heap.objs.size (.lst [])) fp (X.pn++pins) (notedBy (model X.prog X.w) X.A (compEnvC scope Bj (s2.heap.push { cls:=.type "list",data:=.seq ([]:List Value).toArray }).objs.size X.env) λe s'=>R (.error e) s')=X'
 have I4:Inv X' [] (om σ) (upd H2 s2.heap.objs.size (.lst [])) { s2 with heap:=h₁ }:=by
  subst qS
  exact C9 (s:={ s2 with heap:=s2.heap.push { cls:=.type "list",data:=.seq ([]:List Value).toArray } }) S G I3 f3 kp EN s2.toks
 have YQ:PG X' tg g:=by subst qS;exact hg _ _ _ _ _ _ _
 have YR:PE X' elt te:=by subst qS;exact he _ _ _ _ _ _ _
 have stat:∀{H':Hp},(∀b∈fp,H' b=none)->∀b∈fp,pK X' [] H' b:=λhn b hb=>by
  subst qS
  obtain⟨⟨_,f1,fn,_,f4,f5⟩,lt⟩:=f3 b hb
  refine⟨hn b hb,Nat.ne_of_lt lt,λz=>?_,.inl hb,λx c e=>(G.look x c e).elim (λz=>Nat.ne_of_gt (Nat.lt_trans lt z.1)) λz=>f4 x c (S.sub x c z),λp hp=>f5 p ?_⟩
  ·rcases List.mem_cons.mp (I3.rH b z)with q|q
   ·exact f1 q
   ·exact fn q
  ·rcases List.mem_append.mp hp with z|z
   ·exact z
   ·cases z
 have hp1:X'.prog=X.prog:=by subst qS;rfl
 have hp2:X'.w=X.w:=by subst qS;rfl
 have hp3:X'.K=X.K:=by subst qS;rfl
 have SK:X'.calm=true:=by subst qS;exact hc
 have HX:X'.A=X.A:=by subst qS;rfl
 have P1:X'.env=compEnvC scope Bj (s2.heap.push { cls:=.type "list",data:=.seq ([]:List Value).toArray }).objs.size X.env:=by subst qS;rfl
 have M5:X'.xe=notedBy (model X.prog X.w) X.A X'.env λe s'=>R (.error e) s':=by subst qS;rfl
 have fin:∀{H':Hp} {s':Shared},Inv X' [] (om σ) H' s'->Q (.ref s2.heap.objs.size) H'->R (.ok .next) s':=by
  intro H' s' I5 q
  subst hR
  obtain⟨mC,SR,_⟩:=I5.loc
  rw[P1]at SR
  have hok:mO X.prog X.w H' s'.heap:=by
   have z:=I5.hok
   rw[hp1,hp2]at z
   exact z
  have u:Un (frs X.stack) fp (upd H2 s2.heap.objs.size (.lst [])) H' (s2.heap.push { cls:=.type "list",data:=.seq ([]:List Value).toArray }) s'.heap:=by
   have z:=I5.base
   subst qS
   exact z
  have hC:H' (s2.heap.push { cls:=.type "list",data:=.seq ([]:List Value).toArray }).objs.size=none:=by
   have zf:=I5.free
   rw[P1]at zf
   exact zf
  refine Qd _ _ mC H' s' (I3.Ku (ch:=fp) (s':=s') (by have z:=I5.os;subst qS;exact z) u hok I5.bare (λb hb=>?_) (by have z:=I5.up;subst qS;exact Nat.le_trans I3.up z)) (I3.vQ (Nat.le_refl _) hC) SR q
  obtain⟨⟨_,f1,_,YA,f4,f5⟩,_⟩:=f3 b hb
  exact⟨YA,f1,f4,f5⟩
 have loop:∀s3:Shared,Inv X' [] (om σ) (upd H2 s2.heap.objs.size (.lst [])) s3->tn 0 s3.heap →
   codeAny (model X.prog X.w) X.A (.compLoop (.ListComp elt [⟨tg,iter,[],0⟩] scope pos) 0 (.ref it) (.ref s2.heap.objs.size) X'.env) R s3:=by
  intro s3 J3 t3
  refine codeAny_loop rfl (λn s'=>∃i ys H',Inv X' [] (om σ) H' s'/\tn i s'.heap/\(∀b∈fp,H' b=none)/\W i n ys H') ?_ m0 ⟨0,[],_,J3,t3,λb hb=>(f3 b hb).1.1,w0⟩
  rintro n s4 ⟨i,ys,H4,J4,t4,n4,w4⟩
  show wpAny _ _ ((compTurn (.ListComp elt [⟨tg,iter,[],0⟩] scope pos) 0 (.ref it) (.ref s2.heap.objs.size) X'.env).onRaise (λx=>do noteFrame x X'.env;theTreesLotGoes x)) _ _ s4
  refine wpAny_noted ?_
  rw[compTurn_list1]
  refine wpAny_bind (wpAny_standAt (wpAny_bind ?_))
  rcases turn i n ys H4 w4 with⟨stop,q⟩|⟨go,step⟩
  ·have z:=T.done X' hp1 hp2 hp3 SK i [] s4 (om σ) H4 (notedBy (model X.prog X.w) X.A X'.env λe s'=>R (.error e) s') J4 (stat n4) t4 stop
   rw[HX]at z
   refine wpAny_mono z (λr s5 ⟨hr,J5⟩=>?_) λ_ _ x=>x
   subst hr
   exact wpAny_pure (fin J5 q)
  ·have z:=T.item X' hp1 hp2 hp3 SK i [] s4 (om σ) H4 (notedBy (model X.prog X.w) X.A X'.env λe s'=>R (.error e) s') J4 (stat n4) t4 go
   rw[HX]at z
   refine wpAny_mono z (λr s5 ⟨u,hr,h5⟩=>?_) λ_ _ x=>x
   subst hr
   refine wpAny_bind (wpAny_mono h5 (λ_ s6 ⟨x,H6,J6,r6,y6,t6,n6⟩=>?_) λ_ _ x=>x)
   have YT:=J6.pinned (stat n6) (T.obj _ _ t6)
   have zg:=YQ _ s6 (om σ) H6 x u _ YT r6 (step x H6 y6)
   rw[hp1,hp2,HX,M5]at zg
   refine wpAny_bind (wpAny_mono zg (λ_ s7 ⟨BQ,H7,J7,k7,q7⟩=>?_) λ_ _ x=>x)
   have ze:=YR _ s7 BQ H7 _ J7 q7
   rw[hp1,hp2,HX,M5]at ze
   refine wpAny_bind (wpAny_bind (wpAny_mono ze (λyv s8 ⟨y,H8,J8,r8,e8,z8,m',hm,w8⟩=>?_) λ_ _ x=>x))
   have za:=fu (X:=X') _ s8 BQ H8 (.ref s2.heap.objs.size) [y] (.ref s2.heap.objs.size) [yv] (λ_ H9=>H9=upd H8 s2.heap.objs.size (.lst (ys++[y]))) J8 rfl (.cons r8 .nil) ⟨_,ys,y,rfl,rfl,e8,z8,rfl⟩
   rw[hp1,hp2,HX,M5]at za
   refine wpAny_bind (wpAny_mono za (λ_ s9 ⟨_,H9,J9,_,e9⟩=>?_) λ_ _ x=>x)
   subst e9
   refine wpAny_pure (wpAny_pure ⟨rfl,m',hm,i+1,ys++[y],_,?_,?_,?_,w8⟩)
   ·refine J9.Il.weak ?_ ?_
    ·rw[S.len,J9.len]
     subst qS
     rfl
    ·exact k7
   ·exact T.keep _ _ _ t6 λb hb o e=>(J9.pin (b,o) (List.mem_append_right _ (List.mem_append_right _ (iI hb e)))).1
   ·intro b hb
    obtain⟨o,e,d⟩:=T.obj _ _ t6 b hb
    exact(J9.pin (b,o) (List.mem_append_right _ (List.mem_append_right _ (iI hb e)))).2.1
 have l0:=loop _ I4 st3
 have l1:=codeAny_compStart_list l0 (T.self X.A 0 _ _ _ st3 l0)
 rw[P1]at l1
 subst hR
 exact l1
theorem nM{X:Cx}{elt tg iter:Expr}{scope:Scope}{pos:Pos}{wi:TI}{g:TG}{te:TE}{N:List Str}{om:St->St}(hc:X.calm=true)(hS:X.Ok->∃cl,cG X scope cl N om)(hi:PI X tg iter wi)
  (hg:∀cl C s H ex pn E,PG (ju X scope cl C N s H ex pn E) tg g) (he:∀cl C s H ex pn E,PE (ju X scope cl C N s H ex pn E) elt te)
  (hs:∀x,foldedSetIterable iter X.env x=pure x:=by intro _;rfl):PE X (.ListComp elt [⟨tg,iter,[],0⟩] scope pos) (Iw wi g te om):=by
 intro pins s σ H Q I h
 rw[eval_ListComp]
 refine zQ (use:=none) (QQ:=EP X pins σ Q) hc hS hi hg he hs I h ?_
 intro l C mC H' s' I' fp hn q
 exact⟨mC,hn,λh' sb=>⟨.ref l,H',I'.moved (ch:=[C]) (t':=s'.toks) (λb o hb e=>(sb.2 b (by simpa using hb)).trans e) (λb hb=>by rw[List.mem_singleton.mp hb];exact fp),rfl,q⟩⟩
theorem xg{X:Cx}{i:Nat}{y:Str}{py spos:Pos}{elt tg iter:Expr}{scope:Scope}{pos:Pos}{wi:TI}{g:TG}{te:TE}{N:List Str}{om:St->St}(hN:X.N.Nodup)(hi:X.N[i]? =some y)(hx:Loc X.env.scope y)
  (hc:X.calm=true) (hS:X.Ok->∃cl,cG X scope cl N om) (hit:PI X tg iter wi)
  (hg:∀cl C s H ex pn E,PG (ju X scope cl C N s H ex pn E) tg g) (he:∀cl C s H ex pn E,PE (ju X scope cl C N s H ex pn E) elt te)
  (hsw:swapsWith (.ListComp elt [⟨tg,iter,[],0⟩] scope pos) (some (.Name y py)) spos.line X.env=pure true:=by rfl)
  (hf:X.fn y=true\/X.env.scope.names.lookup y=some .local:=by first|exact .inl rfl|exact .inr rfl|assumption)
  (hs:∀x,foldedSetIterable iter X.env x=pure x:=by intro _;rfl):PS X (.Assign [.Name y py] (.ListComp elt [⟨tg,iter,[],0⟩] scope pos) spos) (OT (Iw wi g te om) (JW i)):=by
 intro pins s σ H D I h
 rw[exec_Assign_Name_used _ _ _ _ hsw]
 refine wpAny_bind (wpAny_standAt (wpAny_bind ?_))
 show wpAny _ X.A (do let _ ←comprehension (.ListComp elt [⟨tg,iter,[],0⟩] scope pos) scope X.env _ (newList []) false (eval iter X.env) (some (assign (.Name y py) X.env))) _ _ s
 refine wpAny_bind (wpAny_mono (zQ (use:=some (assign (.Name y py) X.env)) (QQ:=λ_ s'=>SP X pins D .next s') hc hS hit hg he hs I h ?_) (λ_ s' hq=>wpAny_pure (wpAny_pure hq)) λ_ _ e=>e)
 intro l C mC H' s' I' fp hn q
 show wpAny _ X.A (assign (.Name y py) X.env (.ref l)) _ _ _
 refine wpAny_assign_Name (zw I' hN hi hx (v:=.ref l) rfl (λs2 I2 sb=>?_) hf)
 obtain⟨a,sb,ha⟩:=sb
 have nC:C≠a:=by
  obtain⟨_,f1,_,_,f4,_⟩:=fp
  rcases ha with z|z
  ·rw[z];exact f1
  ·exact λe=>f4 y a z e.symm
 refine⟨mC,hn.sameBut sb nC,λh' sb2=>?_⟩
 refine⟨_,H',I2.moved (ch:=[C]) (t':=s2.toks) (λb o hb e=>(sb2.2 b (by simpa using hb)).trans e) (λb hb=>?_),q⟩
 rw[List.mem_singleton.mp hb]
 exact fp
end L2
namespace L2
open PySem PySem.Spec PyProof.Rows
theorem qM{X:Cx}{K':PySem.W.Frag}(hK:X.K=K'):TR X (RE K'):=by subst hK;exact cX
end L2
namespace GP
open PySem L2 sy
theorem Wo.ao{t q:Addr}{H:Hp}{o:HO}(n:q≠t):Wo t (L2.upd H q o)=L2.upd (Wo t H) q o:=by
 funext b
 by_cases e:b=q
 ·subst e
  rw[L2.ah]
  unfold Wo
  rw[if_neg n,L2.ah]
 ·rw[L2.ao e]
  unfold Wo
  split
  ·rfl
  ·rw[L2.ao e]
theorem Wo.step{t:Addr}{H H':Hp}{o:HO}(e:ai (L2.upd H t o) H'):ai (Wo t H) (Wo t H'):=by
 have z:=Wo.same (t:=t) e
 rw[Wo.set]at z
 exact z
theorem Wo.back{t r:Addr}{H H':Hp}{o:HO}(e:ai (Wo t H) (Wo t H'))(ht:H' t=some o)(h:H' r=none):H r=none:=by
 cases q:H r with
 |none=>rfl
 |some u =>
  have n:r≠t:=λz=>by rw[z,ht]at h;cases h
  have z:=Wo.sub _ _ (e r u (Wo.in n q))
  rw[h]at z
  cases z
theorem Paired.Rv{α β:Type}{F:α->β->Prop}{x:α}{y:β}:∀{l₁:List α} {l₂:List β} (j:Nat),Paired F l₁ l₂->F x y->Paired F (l₁.set j x) (l₂.set j y)
 |_,_,_,.nil,_=>.nil
 |_,_,0,.cons r t,h=>.cons h t
 |_,_,j+1,.cons r t,h=>.cons r (Paired.Rv j t h)
theorem tX.put{K:PySem.W.Frag}{H:Hp}{l r p:Addr}{rs ps:List Addr}{rows:List (List cJ)}{row:List cJ}{i j:Nat}{f:cJ}(h:tX K H l rs rows)(hr:rs[i]? =some r)(PV:rows[i]? =some row)
  (hps:H r=some (.lst (ps.map V.ref))) (hp:Paired (kB K H) ps row) (hf:kB K H p f):tX K (L2.upd H r (.lst ((ps.map V.ref).set j (.ref p)))) l rs (rows.set i (row.set j f)):=by
 have Um:l≠r:=λz=>h.nl (z▸List.mem_of_getElem? hr)
 refine⟨by rw[List.length_set];exact h.len,by rw[L2.ao Um];exact h.at_,h.nd,h.nl,λi' r' O0 h1 h2=>?_⟩
 have hi:i<rows.length:=(List.getElem?_eq_some_iff.mp PV).1
 by_cases e:i=i'
 ·subst e
  rw[hr]at h1
  cases h1
  rw[List.getElem?_set,if_pos rfl,if_pos hi]at h2
  cases h2
  refine⟨ps.set j p,by rw[L2.ah,List.map_set],?_⟩
  exact Paired.dP (Paired.Rv j hp hf) λ_ _ z=>dR.off hps z
 ·rw[List.getElem?_set,if_neg e]at h2
  obtain⟨ps',a,b⟩:=h.row i' r' O0 h1 h2
  have n:r'≠r:=λz=>by
   subst z
   exact e ((List.getElem?_inj (List.getElem?_eq_some_iff.mp hr).1 h.nd).mp (hr.trans h1.symm))
  exact⟨ps',by rw[L2.ao n];exact a,Paired.dP b λ_ _ z=>dR.off hps z⟩
theorem tX.snoc{K:PySem.W.Frag}{H H':Hp}{l r:Addr}{rs ps:List Addr}{rows:List (List cJ)}{row:List cJ}(h:tX K H l rs rows)(e:ai H H')(hr:H r=none)(hps:H' r=some (.lst (ps.map V.ref)))(hp:Paired (kB K H') ps row):
  tX K (L2.upd H' l (.lst (rs.map V.ref++[.ref r]))) l (rs++[r]) (rows++[row]):=by
 have hl':=e _ _ h.at_
 have Um:r≠l:=λz=>by rw[z,h.at_]at hr;cases hr
 have nin:r∉rs:=λz=>by
  obtain⟨i,hi,ei⟩:=List.getElem_of_mem z
  have hi2:i<rows.length:=by rw[←h.len];exact hi
  obtain⟨ps',a,_⟩:=h.row i r rows[i] (by rw[List.getElem?_eq_getElem hi,ei]) (List.getElem?_eq_getElem hi2)
  rw[hr]at a
  cases a
 refine⟨by rw[List.length_append,List.length_append,h.len];rfl,by rw[L2.ah,List.map_append];rfl,?_,?_,λi r' O0 h1 h2=>?_⟩
 ·refine List.nodup_append.mpr ⟨h.nd,(by simp),λx hx y hy z=>?_⟩
  rw[List.mem_singleton.mp hy]at z
  exact nin (z▸hx)
 ·intro z
  rcases List.mem_append.mp z with z|z
  ·exact h.nl z
  ·exact Um (List.mem_singleton.mp z).symm
 ·by_cases q:i<rs.length
  ·rw[List.getElem?_append_left q]at h1
   rw[List.getElem?_append_left (by rw[←h.len];exact q)]at h2
   obtain⟨ps',a,b⟩:=h.row i r' O0 h1 h2
   have n:r'≠l:=λz=>h.nl (z▸List.mem_of_getElem? h1)
   exact⟨ps',by rw[L2.ao n];exact e _ _ a,Paired.dP b λ_ _ z=>dR.off hl' (z.same e)⟩
  ·have q':rs.length<=i:=Nat.le_of_not_lt q
   rw[List.getElem?_append_right q']at h1
   rw[List.getElem?_append_right (by rw[←h.len];exact q')]at h2
   have z:i-rs.length=0:=by
    have:=(List.getElem?_eq_some_iff.mp h1).1
    simp at this
    omega
   rw[z]at h1
   rw[←h.len,z]at h2
   cases h1
   cases h2
   exact⟨ps,by rw[L2.ao Um];exact hps,Paired.dP hp λ_ _ z=>dR.off hl' z⟩
end GP
namespace GP
open PySem L2 sy
section
variable{K:PySem.W.Frag}{C:Addr}{H0 H H':Hp}{t l x o m:Addr}{rs:List Addr}{sg:Str}{rows:List (List cJ)}{fo fm:cJ}{k:Int}
end
end GP
namespace L2
open PySem PySem.Spec PyProof.Rows
section
variable{X:Cx}
end
end L2
namespace GP
open PySem L2 sy
def TupAt(H:Hp)(q:Addr)(f:cJ):Prop:=H q=some (.tup [.int f.1,.int f.2])
theorem TupAt.same{H H':Hp}{q:Addr}{f:cJ}(e:ai H H')(h:TupAt H q f):TupAt H' q f:=e _ _ h
theorem TupAt.fr{K:PySem.W.Frag}{H:Hp}{q:Addr}{f:cJ}(h:TupAt H q f):kB K H q f:=dR.of h
def Of(sg x:Str):Prop:=∀c∈x.cps.toList,c∈sg.cps.toList
theorem Qp{x:Str}{i c:Nat}(h:x.cps[i]? =some c):i<x.cps.size:=by
 rw[←Array.getElem?_toList]at h
 have:=(List.getElem?_eq_some_iff.mp h).1
 simpa using this
theorem nR{x:Str}{i c:Nat}(h:x.cps[i]? =some c):c∈x.cps.toList:=by
 rw[←Array.getElem?_toList]at h
 exact List.mem_of_getElem? h
theorem kh{x:Str}{i c:Nat}(h:x.cps[i]? =some c):x.cps.toList[i]? =some c:=by
 rw[Array.getElem?_toList];exact h
theorem Be{x:Str}{i:Nat}(h:i<x.cps.size):∃c,x.cps[i]? =some c:=⟨x.cps[i],by simp[h]⟩
def RI(sg:Str)(rows:List (List cJ))(u:Int)(a b:Nat):Int :=
 match (rows[sg.cps.toList.idxOf a]?).bind (·[sg.cps.toList.idxOf b]?)with
 |some f=>f.1*(u / f.2)
 |none=>0
theorem Jg{sg:Str}{rows:List (List cJ)}{u:Int}{a b:Nat}(sq:K1 sg.cps.size rows)(ha:a∈sg.cps.toList)(hb:b∈sg.cps.toList):
  ∃i j f,sg.cps[i]? =some a/\sg.cps[j]? =some b/\K4 rows i j f/\RI sg rows u a b=f.1*(u / f.2):=by
 have hi:=List.idxOf_lt_length_iff.mpr ha
 have hj:=List.idxOf_lt_length_iff.mpr hb
 have ei:sg.cps.toList[sg.cps.toList.idxOf a]? =some a:=by rw[List.getElem?_eq_getElem hi,List.getElem_idxOf hi]
 have ej:sg.cps.toList[sg.cps.toList.idxOf b]? =some b:=by rw[List.getElem?_eq_getElem hj,List.getElem_idxOf hj]
 have hi':sg.cps.toList.idxOf a<rows.length:=by rw[sq.1];simpa using hi
 have hj':sg.cps.toList.idxOf b<(rows[sg.cps.toList.idxOf a]).length:=by rw[sq.2 _ (List.getElem_mem hi')];simpa using hj
 refine⟨_,_,(rows[sg.cps.toList.idxOf a])[sg.cps.toList.idxOf b],by rw[←Array.getElem?_toList];exact ei,by rw[←Array.getElem?_toList];exact ej,⟨_,List.getElem?_eq_getElem hi',List.getElem?_eq_getElem hj'⟩,?_⟩
 unfold RI
 rw[List.getElem?_eq_getElem hi']
 show(match (rows[sg.cps.toList.idxOf a])[sg.cps.toList.idxOf b]? with|some f=>f.1*(u / f.2)|none=>0)=_
 rw[List.getElem?_eq_getElem hj']
def mP(u:Int)(f:cJ):Int:=f.1*(u / f.2)
def FN(K:PySem.W.Frag)(C:Addr):Sp:=λvs H Q _=>∃(x:Addr) (sg:Str) (rows:List (List cJ)) (fo fm:cJ) (a b:Str),vs=[.ref x,.str a,.str b]/\m7 K C H x sg rows fo fm ∧
 Q (.int (if a=b then mP (cF fo.2 fm.2 rows) fm else mP (cF fo.2 fm.2 rows) fo+mP (cF fo.2 fm.2 rows) fm)) H
end GP
namespace GP
open PySem L2 sy
theorem dR.wo{K:PySem.W.Frag}{H:Hp}{t a:Addr}{ys xs:List V}(ht:H t=some (.lst ys))(h:dR K H a xs):dR K (Wo t H) a xs:=by
 rcases h with(h|⟨u,h⟩)|h
 ·exact .inl (.inl (Wo.in (pZ h ht (by intro z;cases z)) h))
 ·exact .inl (.inr ⟨u,Wo.in (pZ h ht (by intro z;cases z)) h⟩)
 ·exact .inr h
theorem m7.wo{K:PySem.W.Frag}{C:Addr}{H:Hp}{t x:Addr}{ys:List V}{sg:Str}{rows:List (List cJ)}{fo fm:cJ}(ht:H t=some (.lst ys))(nf:KG H x t)(h:m7 K C H x sg rows fo fm):m7 K C (Wo t H) x sg rows fo fm:=by
 obtain⟨a,b,c,d,f,g,i,dx,P,o,m,dd,kvs,h1,⟨qs,h2,h2'⟩,h3,h4,h5,h6,fs,h7,h8,h9⟩:=h
 have n:dd.2≠t:=λz=>nf _ _ _ h1 (by rw[o8,z])
 refine⟨a,b,c,d,f,g,i,dx,P,o,m,dd,kvs,Wo.in (pZ h1 ht (by intro z;cases z)) h1,⟨qs,dR.wo ht h2,Paired.dP h2' λq r z=>?_⟩,dR.wo ht h3,dR.wo ht h4,Wo.in (pZ h5 ht (by intro z;cases z)) h5,h6,fs,h7,h8,Wo.in n h9⟩
 obtain⟨ps,z1,z2⟩:=z
 exact⟨ps,dR.wo ht z1,Paired.dP z2 λ_ _ y=>dR.wo ht y⟩
end GP
namespace L2
open PySem PySem.Spec PyProof.Rows
def Fg(h:Heap)(φ:Addr->Prop)(ea:Addr)(cls:Value)(od:Option Addr):Prop :=
 φ ea/\∃vs sl,h.get? ea=some ⟨cls,od,.fields vs,sl⟩/\(od=none->vs[2]? =some .none)/\(vs[1]? =some .none ∨
  ∃T oT ts,vs[1]? =some (.ref T)/\T≠ea/\φ T/\h.get? T=some oT/\oT.data= .fields ts/\3<ts.size)
def zk(h:Heap)(φ:Addr->Prop)(ea:Addr)(cls:Value)(od:Option Addr):Prop :=
 φ ea/\∃vs sl,h.get? ea=some ⟨cls,od,.fields vs,sl⟩/\(od=none->vs[2]? =some .none) ∧
  ∃T oT ts,vs[1]? =some (.ref T)/\T≠ea/\φ T/\h.get? T=some oT/\oT.data= .fields ts/\3<ts.size
theorem zk.n{h:Heap}{φ:Addr->Prop}{ea:Addr}{cls:Value}{od:Option Addr}(x:zk h φ ea cls od):Fg h φ ea cls od:=by
 obtain⟨p,vs,sl,e,c2,t⟩:=x
 exact⟨p,vs,sl,e,c2,.inr t⟩
theorem Fg.to{h:Heap}{φ ψ:Addr->Prop}{ea:Addr}{cls:Value}{od:Option Addr}(x:Fg h φ ea cls od)(m:∀b,φ b->ψ b):Fg h ψ ea cls od:=by
 obtain⟨p,vs,sl,e,c2,t⟩:=x
 refine⟨m _ p,vs,sl,e,c2,?_⟩
 rcases t with t|⟨T,oT,ts,a,b,c,d⟩
 ·exact .inl t
 ·exact .inr ⟨T,oT,ts,a,b,m _ c,d⟩
structure nU(fr:List Addr)(φ:Addr->Prop)(h h':Heap):Prop where
 keep:∀b o,h.get? b=some o->¬ φ b->b∉fr->h'.get? b=some o
 slot:∀b o,h.get? b=some o->¬ φ b->∃sl,h'.get? b=some { o with slots:=sl }
 there:∀b o,h.get? b=some o->∃o',h'.get? b=some o'
 size:h.objs.size<=h'.objs.size
theorem nU.refl{fr:List Addr}{φ:Addr->Prop}{h:Heap}:nU fr φ h h:=⟨λ_ _ e _ _=>e,λ_ o e _=>⟨o.slots,e⟩,λ_ o e=>⟨o,e⟩,Nat.le_refl _⟩
theorem nU.trans{fr:List Addr}{φ:Addr->Prop}{h h1 h2:Heap}(a:nU fr φ h h1)(b:nU fr φ h1 h2):nU fr φ h h2 where
 keep:=λc o e n f=>b.keep c o (a.keep c o e n f) n f
 slot:=λc o e n=>by
  obtain⟨sl,e1⟩:=a.slot c o e n
  obtain⟨HU,e2⟩:=b.slot c _ e1 n
  exact⟨HU,e2⟩
 there:=λc o e=>by
  obtain⟨o',e1⟩:=a.there c o e
  exact b.there c o' e1
 size:=Nat.le_trans a.size b.size
section
variable{M:Model}{A:Around}{E:Value->Shared->Prop}{s:Shared}{base:Heap}{env e0:Env}{r:List Env}{L ea:Addr}{φ:Addr->Prop}{cls:Value}{od:Option Addr}
theorem Dh{Q:Value->Shared->Prop}(hs:A.frames=some (e0::r))(hl:s.heap.FunFrames base (e0::r))(h0:e0.frame=some L)(he:env.frame=some L)
  (h:∀h',Heap.SlotsOnly ((e0::r).filterMap (·.frame)) s.heap h'->Q (.ref L) { s with heap:=h' }):wpAny M A (PySem.frameOf env) Q E s:=by
 unfold PySem.frameOf
 refine wpAny_bind (wpAny_frameEnvs hs ?_)
 rw[show((e0::r).dropWhile λx=>x.frame != env.frame)=e0::r by simp[List.dropWhile,h0,he]]
 unfold frameObject
 refine wpAny_bind (wpAny_bind (wpAny_readyFrames_fun hl λh1 k1=>wpAny_pure ?_))
 rw[h0]
 exact wpAny_pure (h h1 k1)
theorem zP{vs:Array Value}{sl:Array (Option Value)}{head:Value}{hadNext:Bool}{Q:Unit->Shared->Prop}(hs:A.frames=some (e0::r))(hl:s.heap.FunFrames base (e0::r))(h0:e0.frame=some L)(hf:env.frame=some L)
  (pe:φ ea) (he:s.heap.get? ea=some ⟨cls,od,.fields vs,sl⟩) (h1:1<vs.size) (h2:od=none->vs[2]? =some .none) (new:∀b,s.heap.objs.size<=b->φ b)
  (q:∀h',nU (frs (e0::r)) φ s.heap h'->zk h' φ ea cls od->Q () { s with heap:=h' }) :
  wpAny M A (do let a ←PySem.frameOf env;let pl ←entryPlaceOf L hadNext;let b ←EntryCells.newEntry head a .none (rawInt L) .none pl;setField (.ref ea) 1 b) Q E s:=by
 have nfr:ea∉(e0::r).filterMap (·.frame):=λhm=>by
  obtain⟨_,o,ho,nf⟩:=hl.mem hm
  rw[he]at ho
  cases ho
  exact nf vs rfl
 refine wpAny_bind (Dh hs hl h0 hf λg k=>?_)
 refine wpAny_bind (wpAny_entryPlaceOf λpl pk=>?_)
 simp only[EntryCells.newEntry,newFields]
 refine wpAny_bind (wpAny_newObj_type ?_ (pk.sizeOk5 _ _ _ _ _))
 have e1:g.get? ea=some ⟨cls,od,.fields vs,sl⟩:=(k.2.1 ea nfr).trans he
 have ne:g.objs.size≠ea:=Nat.ne_of_gt (Heap.lt_size e1)
 generalize hob:({ cls:=.type "traceback",dict:=none,data:=.fields ([head,.ref L,.none,rawInt L,.none]++(if pl.isEmpty then List.replicate 6 Value.none else pl)).toArray }:Obj)=ob
 have e2:=Heap.get?_push_of_some (h:=g) ob e1
 refine wpAny_setField e2 rfl h1 (q _ ⟨λb o e n f=>?_,λb o e n=>?_,λb o e=>?_,?_⟩ ⟨pe,_,sl,Heap.get?_update_self _ e2 rfl,λz=>(Array.getElem?_setIfInBounds_ne (by decide)).trans (h2 z),g.objs.size,ob,_,?_,ne,new _ (Nat.le_of_eq k.1.symm),?_,by subst hob;rfl,?_⟩)
 ·have be:b≠ea:=λz=>n (z▸pe)
  rw[Heap.get?_update_other _ _ (Ne.symm be)]
  exact Heap.get?_push_of_some _ ((k.2.1 b f).trans e)
 ·have be:b≠ea:=λz=>n (z▸pe)
  obtain⟨HU,e'⟩:=k.2.2 b o e
  refine⟨HU,?_⟩
  rw[Heap.get?_update_other _ _ (Ne.symm be)]
  exact Heap.get?_push_of_some _ e'
 ·by_cases be:b=ea
  ·subst be
   exact⟨_,Heap.get?_update_self _ e2 rfl⟩
  ·obtain⟨HU,e'⟩:=k.2.2 b o e
   exact⟨{ o with slots:=HU },(Heap.get?_update_other _ _ (Ne.symm be)).trans (Heap.get?_push_of_some _ e')⟩
 ·rw[Heap.size_after_update,Heap.size_push,k.1]
  exact Nat.le_succ _
 ·simp[h1]
 ·rw[Heap.get?_update_other _ _ (Ne.symm ne)]
  exact Heap.get?_push_size _ (by subst hob;rfl)
 ·rw[List.size_toArray,List.length_append]
  exact Nat.lt_of_lt_of_le (by decide:3<5) (Nat.le_add_right _ _)
theorem CQ{Q:Unit->Shared->Prop}(hs:A.frames=some (e0::r))(hl:s.heap.FunFrames base (e0::r))(h0:e0.frame=some L)(hf:env.frame=some L)
  (x:Fg s.heap φ ea cls od) (new:∀b,s.heap.objs.size<=b->φ b) (q:∀h',nU (frs (e0::r)) φ s.heap h'->zk h' φ ea cls od->Q () { s with heap:=h' }) :
  wpAny M A (noteFrame (.ref ea) env) Q E s:=by
 obtain⟨pe,vs,sl,he,c2,hv⟩:=x
 unfold noteFrame
 simp only[hf]
 rcases hv with h1|⟨T,oT,ts,h1,ne,pT,hT,hd,h3⟩
 ·refine wpAny_bind (wpAny_field he rfl h1 ?_)
  rw[if_neg (by decide)]
  exact zP hs hl h0 hf pe he (Array.getElem?_eq_some_iff.mp h1).1 c2 new q
 ·have g3:ts[3]? =some ts[3]:=Array.getElem?_eq_getElem h3
  refine wpAny_bind (wpAny_field he rfl h1 ?_)
  rw[if_pos (show(Value.ref T != Value.none)=true by simp)]
  refine wpAny_bind (wpAny_field hT hd g3 ?_)
  by_cases e3:(ts[3]==rawInt L)=true
  ·rw[if_pos e3]
   exact wpAny_pure (q s.heap nU.refl ⟨pe,vs,sl,he,c2,T,oT,ts,h1,ne,pT,hT,hd,h3⟩)
  ·rw[if_neg e3]
   refine wpAny_bind (wpAny_setField hT hd h3 ?_)
   have other:∀b,b≠T->(s.heap.update T (Obj.mapFields (·.setIfInBounds 3 Value.none))).get? b=s.heap.get? b:=λb z=>Heap.get?_update_other _ _ (Ne.symm z)
   have n1:nU (frs (e0::r)) φ s.heap (s.heap.update T (Obj.mapFields (·.setIfInBounds 3 Value.none))):=by
    refine⟨λb o e n f=>(other b λz=>n (z▸pT)).trans e,λb o e n=>⟨o.slots,(other b λz=>n (z▸pT)).trans e⟩,λb o e=>?_,Nat.le_of_eq (Heap.size_after_update ..).symm⟩
    by_cases z:b=T
    ·subst z
     exact⟨_,Heap.get?_update_self _ hT (Obj.isFreed_of_fields (Obj.data_mapFields hd _))⟩
    ·exact⟨o,(other b z).trans e⟩
   refine zP (s:={ s with heap:=s.heap.update T (Obj.mapFields (·.setIfInBounds 3 Value.none)) }) hs (hl.of_keeps λb o e nf=>⟨o,(other b λz=>?_).trans e,rfl⟩) h0 hf pe ((other ea (Ne.symm ne)).trans he) (Array.getElem?_eq_some_iff.mp h1).1 c2
    (λb hb=>new b (Nat.le_trans n1.size hb)) λh' n2 x2=>q h' (n1.trans n2) x2
   subst z
   rw[hT]at e
   cases e
   exact nf ts hd
theorem sj{fl:Option Addr}{fr:List Addr}{Q:Unit->Shared->Prop}(x:zk s.heap φ ea cls od)(q:∀h',nU fr φ s.heap h'->zk h' φ ea cls od->Q () { s with heap:=h' }):
  wpAny M A (setFlight (.ref ea) fl) Q E s:=by
 obtain⟨pe,vs,sl,he,c2,T,oT,ts,h1,ne,pT,hT,hd,h3⟩:=x
 unfold setFlight
 refine wpAny_bind (wpAny_field he rfl h1 ?_)
 rw[if_pos (show(Value.ref T != Value.none)=true by simp)]
 have other:∀(f:Obj->Obj) b,b≠T->(s.heap.update T f).get? b=s.heap.get? b:=λf b z=>Heap.get?_update_other _ _ (Ne.symm z)
 refine wpAny_setField hT hd h3 (q _ ⟨λb o e n f=>(other _ b λz=>n (z▸pT)).trans e,λb o e n=>⟨o.slots,(other _ b λz=>n (z▸pT)).trans e⟩,λb o e=>?_,Nat.le_of_eq (Heap.size_after_update ..).symm⟩
  ⟨pe,vs,sl,(other _ ea (Ne.symm ne)).trans he,c2,T,_,_,h1,ne,pT,Heap.get?_update_self _ hT (Obj.isFreed_of_fields (Obj.data_mapFields hd _)),Obj.data_mapFields hd _,by simp[h3]⟩)
 by_cases z:b=T
 ·subst z
  exact⟨_,Heap.get?_update_self _ hT (Obj.isFreed_of_fields (Obj.data_mapFields hd _))⟩
 ·exact⟨o,(other _ b z).trans e⟩
end
end L2
namespace L2
open PySem PySem.Spec PyProof.Rows
section
variable{X:Cx}{pins:List (Addr×Obj)}{σ:St}{H H':Hp}{s:Shared}
def Mu(X:Cx)(pins:List (Addr×Obj))(H:Hp)(b:Addr):Prop :=
 H b=none/\b≠X.env.locals/\b∉X.fs/\(X.s₀.heap.get? b=none\/b∈X.ex)/\(∀x c,X.env.cells.lookup x=some c->c≠b)/\∀p∈X.pn++pins,p.1≠b
theorem Inv.Uc{b:Addr}(I:Inv X pins σ H s)(hn:s.heap.get? b=none)(hH:H' b=none):Mu X pins H' b:=by
 refine⟨hH,λz=>?_,λz=>?_,?_,λx c e z=>?_,λp hp z=>?_⟩
 ·obtain⟨m,⟨o,_,_,ho,_⟩,_⟩:=I.loc
  rw[←z,hn]at ho
  cases ho
 ·obtain⟨_,o,ho,_⟩:=I.rZ.mem z
  rw[hn]at ho
  cases ho
 ·by_cases hx:b∈X.ex
  ·exact .inr hx
  ·left
   cases q:X.s₀.heap.get? b with
   |none=>rfl
   |some o =>
    obtain⟨o',e⟩:=I.base.there b o q hx
    rw[hn]at e
    cases e
 ·obtain⟨v,o,ho,_⟩:=I.cell x c e
  rw[z,hn]at ho
  cases ho
 ·have q:=(I.pin p hp).1
  rw[z,hn]at q
  cases q
theorem Inv.Q7{b:Addr}(I:Inv X pins σ H s)(hb:s.heap.objs.size<=b):Mu X pins H b:=I.Uc (Heap.get?_none_of_le hb) (I.hok.fresh hb)
theorem Un.noted{fs fr ex:List Addr}{H₀:Hp}{h₀ h h':Heap}{φ:Addr->Prop}(u:Un fs ex H₀ H h₀ h)(n:nU fr φ h h')(new:∀b o,h₀.get? b=some o->b∉ex->¬ φ b)(hf:∀b o,h₀.get? b=some o->b∈fr->b∈fs):Un fs ex H₀ H h₀ h' where
 keep:=λb o e hn nf nx=>n.keep b o (u.keep b o e hn nf nx) (new b o e nx) λz=>nf (hf b o e z)
 slot:=λb o e hn hb nx=>by
  obtain⟨sl,e1⟩:=u.slot b o e hn hb nx
  obtain⟨HU,e2⟩:=n.slot b _ e1 (new b o e nx)
  exact⟨HU,e2⟩
 free:=u.free
 there:=λb o e nx=>by
  obtain⟨o',e1⟩:=u.there b o e nx
  exact n.there b o' e1
 tups:=u.tups
 r9:=u.r9
 sJ:=u.sJ
theorem mO.noted{P:Program}{w:World}{h h':Heap}{fr:List Addr}{φ:Addr->Prop}(x:mO P w H h)(n:nU fr φ h h')(hφ:∀b,φ b->H b=none)(hf:∀b∈fr,H b=none):mO P w H h':=λa u e =>
 (x a u e).stay (λb v hb q=>by
  have nb:H b≠none:=λz=>by
   rcases hb with y|y
   ·rw[y,e]at z;cases z
   ·rw[y]at z;cases z
  exact n.keep b v q (λz=>nb (hφ b z)) λz=>nb (hf b z)) (λ_ q=>q) λ_ _ q=>q
theorem Inv.noted{h':Heap}(I:Inv X pins σ H s)(n:nU (frs X.stack) (Mu X pins H) s.heap h'):Inv X pins σ H { s with heap:=h' }:=by
 have cellK:∀x c,X.env.cells.lookup x=some c->∀v,s.heap.IsCell c v->h'.IsCell c v:=λx c e v ⟨o,ho,hd⟩=>by
  obtain⟨sl,q⟩:=n.slot c o ho λk=>k.2.2.2.2.1 x c e rfl
  exact⟨_,q,hd⟩
 refine⟨I.ok,I.os,I.bare,I.base.noted n (λb o e nx k=>?_) (λb o e z=>?_),?_,λx c e=>?_,I.free,I.kc,λp hp=>?_,I.hok.noted n (λb k=>k.1) I.Ai,I.len,I.up⟩
 ·rcases k.2.2.2.1 with z|z
  ·rw[e]at z;cases z
  ·exact nx z
 ·rcases List.mem_cons.mp (I.rH b z)with q|q
  ·subst q
   exact absurd (Nat.lt_of_lt_of_le (Heap.lt_size e) I.ok.above) (Nat.lt_irrefl _)
  ·exact q
 ·obtain⟨m,⟨o,es,ep,ho,rr⟩,hl⟩:=I.loc
  obtain⟨sl,q⟩:=n.slot _ o ho λk=>k.2.1 rfl
  refine⟨m,⟨_,es,ep,q,rr⟩,λi x v e1 e2 e3=>?_⟩
  obtain⟨u,rv,l⟩:=hl i x v e1 e2 e3
  refine⟨u,rv,?_⟩
  rcases l with l|⟨k,c,e,z⟩
  ·exact .inl l
  ·exact .inr ⟨k,c,e,cellK x c e _ z⟩
 ·obtain⟨v,z⟩:=I.cell x c e
  exact⟨v,cellK x c e v z⟩
 ·obtain⟨e,hn,ne,nf,d⟩:=I.pin p hp
  refine⟨n.keep p.1 p.2 e (λk=>k.2.2.2.2.2 p hp rfl) λz=>?_,hn,ne,nf,d⟩
  rcases List.mem_cons.mp (I.rH _ z)with q|q
  ·exact ne q
  ·exact nf q
end
theorem Un.same{fs ex:List Addr}{H₀ H:Hp}{h₀ h h':Heap}(u:Un fs ex H₀ H h₀ h)(k:∀b o,h₀.get? b=some o->h'.get? b=h.get? b):Un fs ex H₀ H h₀ h' where
 keep:=λb o e hn nf nx=>(k b o e).trans (u.keep b o e hn nf nx)
 slot:=λb o e hn hb nx=>by
  obtain⟨sl,e1⟩:=u.slot b o e hn hb nx
  exact⟨sl,(k b o e).trans e1⟩
 free:=u.free
 there:=λb o e nx=>by
  obtain⟨o',e1⟩:=u.there b o e nx
  exact⟨o',(k b o e).trans e1⟩
 tups:=u.tups
 r9:=u.r9
 sJ:=u.sJ
def vz(P:Program)(w:World):HR:=λouter H s E e s'=>∃ea cls od H',e= .ref ea/\s'.os=s.os/\AllBare s'.gens/\s.toks<=s'.toks/\Un (frs outer) [] H H' s.heap s'.heap/\mO P w H' s'.heap ∧
 Fg s'.heap (λb=>s.heap.get? b=none/\H' b=none) ea cls od/\E cls od H'
def Lets(X:Cx)(E:St->XK):Prop:=∀(pins:List (Addr×Obj)) (σ:St) (H:Hp) (s:Shared) (ea:Addr) (cls:Value) (od:Option Addr),Inv X pins σ H s->Fg s.heap (Mu X pins H) ea cls od->E σ cls od H->X.xe (.ref ea) s
theorem Lets.pass{X:Cx}{E:St->XK}{pins:List (Addr×Obj)}{σ:St}{H:Hp}{s s':Shared}{e:Value}(L:Lets X E)(I:Inv X pins σ H s)(h:vz X.prog X.w X.stack H s (E σ) e s'):X.xe e s':=by
 obtain⟨ea,cls,od,H',rfl,os,bare,tt,un,hok,x,hE⟩:=h
 have I2:Inv X pins σ H' s':=I.Ku (ch:=[]) os un hok bare (λb z=>nomatch z) (Nat.le_trans I.up tt)
 exact L pins σ H' s' ea cls od I2 (x.to λb k=>I.Uc k.1 k.2) hE
theorem Lets.passes{X:Cx}{E:XK}(L:Lets X λ_=>E):Passes (vz X.prog X.w) X E:=λ_ _ _ _ _ _ I h=>L.pass I h
section
variable{P:Program}{w:World}{K:PySem.W.Frag}{mg:Str->Option Value}{base:Heap}
theorem oZ{N:List Str}{qual:Str}{scope:Scope}{f:Addr}{cd:Value}{A:Around}{outer:List Env}{s:Shared}{H:Hp}{E:XK}:Lets (tL (vz P w) P w K mg base N qual scope f cd A outer s H E) λ_=>E:=by
 intro pins σ H' s' ea cls od I x hE
 show wpAny _ _ (leaving _ (.ref ea)) _ _ s'
 unfold leaving
 refine wpAny_bind (CQ I.ok.frames I.stack rfl rfl x (λb hb=>I.Q7 hb) λh1 n1 x1=>?_)
 refine sj (fr:=frs (tL (vz P w) P w K mg base N qual scope f cd A outer s H E).stack) x1 λh2 n2 x2=>?_
 have I2:=I.noted (n1.trans n2)
 refine⟨ea,cls,od,H',rfl,I2.os,I2.bare,I2.up,I2.base,I2.hok,x2.n.to λb k=>⟨?_,k.1⟩,hE⟩
 rcases k.2.2.2.1 with z|z
 ·exact z
 ·exact nomatch z
theorem sS{N:List Str}{qual:Str}{scope:Scope}{f:Addr}{cd:Value}{A:Around}{outer:List Env}{s:Shared}{H:Hp}{E:XK}:
  PassesOwn (model P w) (tL (vz P w) P w K mg base N qual scope f cd A outer s H E).A (tL (vz P w) P w K mg base N qual scope f cd A outer s H E).env (tL (vz P w) P w K mg base N qual scope f cd A outer s H E).xe:=PassesOwn.leaving
theorem K3.Pb{x qual:Str}{st:Stmt}{f:Addr}{fd:FuncData}{N ps:List Str}{k:Nat}{sp:Sp}(F:K3 K x qual st f fd)(S:aH N ps (ay st))(len:∀vs H Q E,sp vs H Q E->vs.length=ps.length)
  (hbody:∀(cdv:Value) (A:Around) (outer:List Env) (s:Shared) (H:Hp) (vs:List V) (Q:VK) (E:XK),jO k (A.deeper (envOfC qual (ay st) s.heap.objs.size f cdv))->sp vs H Q E →
   ∃t,Aa (tL (vz P w) P w K mg base N qual (ay st) f cdv A outer s H E) (d8 st) t/\t { nx:=λ_ H'=>Q .iz H',rt:=Q } (start N vs) H):aI P w K mg base (vz P w) (k+1) f fd ps sp:=by
 obtain⟨oc,od,dV,kV,doc,pm,an,cdv,ct,osl,rfl,lk,hcd⟩:=F.ex
 exact JY lk hcd S len λA outer s H vs Q E hr DY=>hbody cdv A outer s H vs Q E hr DY
end
theorem bQ.got{P:Program}{w:World}{H:Hp}{h:Heap}{a:Addr}{o:HO}(x:bQ P w H h a o):h.get? a≠none:=by
 cases o with
 |lst xs=>obtain⟨_,_,_,_,e⟩:=x;rw[e];exact λz=>nomatch z
 |tup xs=>obtain⟨_,_,_,ob,e,_⟩:=x;rw[e];exact λz=>nomatch z
 |dK kvs=>obtain⟨_,_,_,_,o,_,_,e,_⟩:=x;rw[e];exact λz=>nomatch z
 |dT kvs=>obtain⟨_,_,_,_,o,_,_,e,_⟩:=x;rw[e];exact λz=>nomatch z
 |set S n=>obtain⟨o,_,_,_,e,_⟩:=x;rw[e];exact λz=>nomatch z
 |ins C dx fs=>obtain⟨_,_,_,e,_⟩:=x;rw[e];exact λz=>nomatch z
 |own y=>obtain⟨_,e⟩:=x;rw[e];exact λz=>nomatch z
 |xd fs=>obtain⟨_,⟨_,_,_,e,_⟩,_⟩:=x;rw[e];exact λz=>nomatch z
 |Uj lo hi=>obtain⟨_,_,_,e⟩:=x;rw[e];exact λz=>nomatch z
 |EV ob u=>obtain⟨e,_⟩:=x;rw[e];exact λz=>nomatch z
 |MF ps=>have e:h.get? a=some _:=x;rw[e];exact λz=>nomatch z
 |met f y=>have e:h.get? a=some _:=x;rw[e];exact λz=>nomatch z
 |ext φ=>obtain⟨_,⟨_,e⟩,_⟩:=x;rw[e];exact λz=>nomatch z
theorem mO.none_of{P:Program}{w:World}{H:Hp}{h:Heap}{a:Addr}(x:mO P w H h)(e:h.get? a=none):H a=none:=by
 cases q:H a with
 |none=>rfl
 |some o=>exact absurd e (x a o q).got
set_option genInjectivity false in
structure XP where
 nm:Str
 q:Str
 N:Addr
 bs:List Value
 bm:List Value
 hdct:Bool
 sn:List Str
 sub:List Value
 ab:Bool
 col:Option Bool
 dd:Option Addr
 k0:Option Value
 k1:Option Value
 k2:Option Value
 k3:Option Value
 k5:Option Value
 mN:Str->Option Value
abbrev XP.obj(d:XP)(C:Addr)(newId:String):Obj:=excClassObj d.nm d.q C d.N d.bs d.bm d.hdct d.sn d.sub d.ab d.col d.dd d.k0 d.k1 d.k2 d.k3 d.k5 newId
structure YN(K:PySem.W.Frag)(C:Addr)(Bn B newId inN nid initId:String)(bmN bmB:List Value):Prop where
 fn:ExcBaseFacts Bn newId inN bmN
 has:bmB.contains (.type Bn)=true
 fb:ExcBaseFacts B nid initId bmB
 obj:∀h:Heap,K.In h->∃d:XP,h.get? C=some (d.obj C newId)/\h.Ns d.N d.mN/\d.mN "__init__" =none/\OwnTail h bmB d.bm
def KA(K:PySem.W.Frag)(C:Addr):Prop:=∃Bn B newId inN nid initId bmN bmB,YN K C Bn B newId inN nid initId bmN bmB
theorem K6 {K:PySem.W.Frag} {C:Addr} (q:PySem.W.excIn K C [.type "ValueError",.type "Exception",.type "BaseException",.type "object"] "ValueError.__new__" =true):KA K C:=by
 refine⟨_,_,_,_,_,_,_,_,PySem.F.excBase_ValueError,PySem.F.excBase_ValueError.hasB,PySem.F.excBase_ValueError,λh k=>?_⟩
 unfold PySem.W.excIn at q
 split at q
 ·rename_i dd cd sl hob
  split at q
  ·rename_i C' bm k0 k1 k2 k3 nn k5 hmr JJ
   simp only[Bool.and_eq_true,beq_iff_eq,Bool.not_eq_true']at q
   obtain⟨⟨⟨⟨⟨e1,e2⟩,e3⟩,e4⟩,e5⟩,e6⟩:=q
   subst e1 e2
   obtain⟨nm,bs,mro,ns,qn,hd,sn,sub,ab,col,del⟩:=cd
   dsimp only at hmr e3 e5 e6
   subst hmr e3
   have hsl:sl= #[k0,k1,k2,k3,some (.builtin "ValueError.__new__"),k5]:=by
    obtain⟨l⟩:=sl
    simp only at JJ
    rw[JJ]
   subst hsl
   exact⟨⟨nm,qn,ns,bs,bm,hd,sn,sub,ab,col,dd,k0,k1,k2,k3,k5,_⟩,k _ _ hob,.of_isNs (PySem.W.isNs_of_in k e5),PySem.W.nsMap_none_of_in k e5 e6,PySem.W.tail_of_in k e4⟩
  ·cases q
 ·cases q
def OO(C:Addr)(E:St->XK)(t:TA):TS:=λ_ σ H=>t σ H λvs H1=>vs.length<=sizeLine/\E σ (.ref C) none H1
theorem I8{X:Cx}{E:St->XK}{C:Addr}{x:Str}{np cpos pos:Pos}{e:Expr}{es:List Expr}{t:TA}(L:Lets X E)(OE:KA X.K C)(hc:X.calm=true)
  (hg:Gl X x) (hm:X.mg x=some (.ref C)) (ha:PA X (e::es) t) (hdb:(x==("__debug__" :Str))=false:=by decide) (he:starEach (e::es) X.env=(false,eval e X.env)::starEach es X.env:=by rfl)
  (hpl:(backTo cpos (starEach es X.env)).any (·.1)=false:=by rfl):PS X (.Raise (some (.Call (.Name x np) (e::es) [] cpos)) none pos) (OO C E t):=by
 intro pins s σ H D I h
 obtain⟨Bn,B,newId,inN,nid,initId,bmN,bmB,O⟩:=OE
 obtain⟨d,hC,hN,hni,T⟩:=O.obj X.base I.ok.mod.MW
 refine wpAny_Raise_call_subU (C:=C) (nm:=d.nm) (q:=d.q) (N:=d.N) (bs:=d.bs) (bm:=d.bm) (hdct:=d.hdct) (sn:=d.sn) (sub:=d.sub) (ab:=d.ab) (col:=d.col) (dd:=d.dd) (k0:=d.k0) (k1:=d.k1) (k2:=d.k2) (k3:=d.k3) (k5:=d.k5) O.fn O.has O.fb
  (mN:=d.mN) (T.hasType O.fb.hasBase) (I.ok.hd hc) (by rw[he];show(false||(backTo cpos (starEach es X.env)).any (·.1))=false;rw[hpl];rfl) hni (nP I hg hm ⟨rfl,?_⟩ hdb)
 have z:=ha cpos pins s σ H _ I h
 rw[he]at z ⊢
 refine Calls.evalArgs_plain (fh z λus s2 ⟨vs,H2,I2,r,hl,q2⟩=>⟨rfl,?_,I2.bk _ _ hC,hN.keeps I2.bk,T.keeps I2.bk,λh' ea hm=>?_⟩)
 ·show us.length<=sizeLine
  rw[←r.length]
  exact hl
 ·obtain⟨t',ht,_,_⟩:=hm.there
  exact L pins σ H2 _ ea (.ref C) none (I2.kept (t':=s2.toks) hm.keeps) ⟨I2.Uc hm.new (I2.hok.none_of hm.new),_,_,ht,λ_=>rfl,.inl rfl⟩ q2
end L2
namespace L2
open PySem PySem.Spec PyProof.Rows
def Fm(X:Cx):Prop:=∃e0 r L,X.stack=e0::r/\e0.frame=some L/\X.env.frame=some L
theorem Qk{CX:HR}{P:Program}{w:World}{K:PySem.W.Frag}{mg:Str->Option Value}{base:Heap}{N:List Str}{qual:Str}{scope:Scope}{f:Addr}{cd:Value}{A:Around}{outer:List Env}{s:Shared}{H:Hp}{E:XK}:
  Fm (tL CX P w K mg base N qual scope f cd A outer s H E).Pe:=⟨_,_,_,rfl,rfl,rfl⟩
abbrev Cx.xZ(X:Cx)(pn:List (Addr×Obj))(xe:Value->Shared->Prop):Cx:={ X with pn:=pn,xe:=xe }
theorem Cx.Ok.xZ{X:Cx}(ok:X.Ok)(pn:List (Addr×Obj))(xe:Value->Shared->Prop):(X.xZ pn xe).Ok :=
 ⟨ok.mod,ok.kind,ok.glob,ok.blt,ok.above,ok.inj,ok.has,ok.Mr,ok.hd,ok.frames,ok.stk,ok.UI,ok.bs,ok.Kv,ok.EA,ok.Ht,ok.rZ,ok.Mi,ok.tk⟩
section
variable{X:Cx}{pins ps:List (Addr×Obj)}{σ:St}{H:Hp}{s:Shared}{xe:Value->Shared->Prop}
theorem Inv.xZ(I:Inv X pins σ H s):Inv (X.xZ (X.pn++pins) xe) [] σ H s :=
 ⟨I.ok.xZ _ _,I.os,I.bare,I.base,I.loc,I.cell,I.free,I.kc,λp hp=>I.pin p (by simpa using hp),I.hok,I.len,I.up⟩
theorem Inv.rE(ok:X.Ok)(I:Inv (X.xZ (X.pn++pins) xe) ps σ H s):Inv X pins σ H s :=
 ⟨ok,I.os,I.bare,I.base,I.loc,I.cell,I.free,I.kc,λp hp=>I.pin p (List.mem_append_left _ hp),I.hok,I.len,I.up⟩
theorem Mu.rE{b:Addr}(k:Mu (X.xZ (X.pn++pins) xe) ps H b):Mu X pins H b :=
 ⟨k.1,k.2.1,k.2.2.1,k.2.2.2.1,k.2.2.2.2.1,λp hp=>k.2.2.2.2.2 p (List.mem_append_left _ hp)⟩
theorem zk.to{h:Heap}{φ ψ:Addr->Prop}{ea:Addr}{cls:Value}{od:Option Addr}(x:zk h φ ea cls od)(m:∀b,φ b->ψ b):zk h ψ ea cls od:=by
 obtain⟨p,vs,sl,e,c2,T,oT,ts,a,b,c,d⟩:=x
 exact⟨m _ p,vs,sl,e,c2,T,oT,ts,a,b,m _ c,d⟩
end
abbrev TH:=Value->Option Addr->TS
def PH(X:Cx)(hs:List ExceptHandler)(th:TH):Prop :=
 ∀(pins:List (Addr×Obj)) (s:Shared) (σ:St) (H:Hp) (D:Ends) (ea:Addr) (cls:Value) (od:Option Addr),Inv X pins σ H s->zk s.heap (Mu X pins H) ea cls od->th cls od D σ H →
  wpAny (model X.prog X.w) X.A (handleBy (.ref ea) X.env hs) (SP X pins D) X.xe s
def Wg(tb:(St->XK)->TS)(th:TH):TS:=λD σ H=>tb (λσ' cls od H'=>th cls od D σ' H') D σ H
theorem O2{X:Cx}{body:List Stmt}{h₀:ExceptHandler}{hs:List ExceptHandler}{pos:Pos}{tb:(St->XK)->TS}{th:TH}(F:Fm X)
  (hb:∀(E:St->XK) (pn:List (Addr×Obj)) (xe:Value->Shared->Prop),Lets (X.xZ pn xe) E->PassesOwn (model X.prog X.w) X.A X.env xe->Aa (X.xZ pn xe) body (tb E)) (hh:PH X (h₀::hs) th) :
  PS X (.Try body (h₀::hs) [] [] pos) (Wg tb th):=by
 intro pins s σ H D I h
 obtain⟨e0,r,L,hst,h0,hf⟩:=F
 refine wpAny_Try_except ?_
 generalize Xo:(λe s₁=>wpAny (model X.prog X.w) X.A (noteFrame e X.env) (λ_ s₂=>wpAny (model X.prog X.w) X.A (setFlight e none) (λ_ s₃=>wpAny (model X.prog X.w) X.A (handleBy e X.env (h₀::hs)) (SP X pins D) X.xe s₃) X.xe s₂) X.xe s₁)=xe
 have LX:Lets (X.xZ (X.pn++pins) xe) λσ' cls od H'=>th cls od D σ' H':=by
  intro ps σ' H' s' ea cls od J x q
  show xe (.ref ea) s'
  subst Xo
  have fr:=J.ok.frames
  have sf:=J.stack
  refine CQ (s:=s') (e0:=e0) (r:=r) (by rw[←hst];exact fr) (by rw[←hst];exact sf) h0 hf x (λb hb=>J.Q7 hb) λh1 n1 x1=>?_
  refine sj (fr:=frs (e0::r)) x1 λh2 n2 x2=>?_
  have MU:=n1.trans n2
  rw[←hst]at MU
  have J2:=J.noted MU
  exact hh pins _ σ' H' D ea cls od (J2.rE I.ok) (x2.to λb k=>k.rE) q
 have po:PassesOwn (model X.prog X.w) X.A X.env xe:=by
  subst Xo
  exact PassesOwn.looking
 refine wpAny_mono (hb _ _ xe LX po [] s σ H D I.xZ h) (λf s1 q=>?_) λe s1 q=>?_
 ·cases f with
  |next =>
   obtain⟨σ',H',J,q⟩:=q
   exact wpAny_execs_nil ⟨σ',H',J.rE I.ok,q⟩
  |brk =>
   obtain⟨σ',H',J,q⟩:=q
   exact⟨σ',H',J.rE I.ok,q⟩
  |cont =>
   obtain⟨σ',H',J,q⟩:=q
   exact⟨σ',H',J.rE I.ok,q⟩
  |ret u =>
   obtain⟨v,σ',H',J,rv,q⟩:=q
   exact⟨v,σ',H',J.rE I.ok,rv,q⟩
 ·have q':xe e s1:=q
  subst Xo
  exact q'
abbrev Cx.within(X:Cx)(ea:Addr):Cx:={ X with A:=X.A.mark (some (.ref ea)),calm:=false,xe:=λ_ _=>False }
theorem Cx.Ok.within{X:Cx}(ok:X.Ok)(ea:Addr):(X.within ea).Ok :=
 ⟨ok.mod,ok.kind,ok.glob,ok.blt,ok.above,ok.inj,ok.has,ok.Mr,(λz=>nomatch z),ok.frames,ok.stk,ok.UI,ok.bs,ok.Kv,ok.EA,ok.Ht,ok.rZ,ok.Mi,ok.tk⟩
section
variable{X:Cx}{pins:List (Addr×Obj)}{σ:St}{H:Hp}{s:Shared}{ea:Addr}
theorem Inv.within(I:Inv X pins σ H s)(ea:Addr):Inv (X.within ea) pins σ H s:=⟨I.ok.within ea,I.os,I.bare,I.base,I.loc,I.cell,I.free,I.kc,I.pin,I.hok,I.len,I.up⟩
theorem Inv.behind(ok:X.Ok)(I:Inv (X.within ea) pins σ H s):Inv X pins σ H s:=⟨ok,I.os,I.bare,I.base,I.loc,I.cell,I.free,I.kc,I.pin,I.hok,I.len,I.up⟩
end
def K0(ea:Addr)(cls:Value)(od:Option Addr):HO:=.ext λh=>∃vs sl,h.get? ea=some ⟨cls,od,.fields vs,sl⟩
def Ends.un(D:Ends)(i:Nat):Ends:={ nx:=λσ H=>D.nx (σ.set i none) H,rt:=D.rt,bk:=λσ H=>D.bk (σ.set i none) H,ct:=λσ H=>D.ct (σ.set i none) H }
theorem Inv.Ir{X:Cx}{pins:List (Addr×Obj)}{σ:St}{H:Hp}{s:Shared}{a:Addr}{o:HO}(I:Inv X pins σ H s)(k:Mu X pins H a)(new:bQ X.prog X.w (upd H a o) s.heap a o):Inv X pins σ (upd H a o) s:=by
 obtain⟨hn,k1,k2,k3,k4,k5⟩:=k
 refine⟨I.ok,I.os,I.bare,⟨I.base.keep,I.base.slot,λb ob q n hx=>?_,I.base.there,λb xs q=>?_,λb ob u q=>?_,λb ps q=>?_⟩,I.loc,I.cell,?_,λx c e=>?_,λp hp=>?_,λb u q=>?_,I.len,I.up⟩
 ·have ne:b≠a:=λz=>by
   rcases k3 with y|y
   ·rw[←z,q]at y;cases y
   ·exact hx (z▸y)
  rw[ao ne]
  exact I.base.free b ob q n hx
 ·have q':=I.base.tups b xs q
  rw[ao (aP q' hn)];exact q'
 ·have q':=I.base.r9 b ob u q
  rw[ao (aP q' hn)];exact q'
 ·obtain⟨more,q'⟩:=I.base.sJ b ps q
  exact⟨more,by rw[ao (aP q' hn)];exact q'⟩
 ·rw[ao (Ne.symm k1)];exact I.free
 ·rw[ao (k4 x c e)];exact I.kc x c e
 ·obtain⟨e,n,r⟩:=I.pin p hp
  exact⟨e,by rw[ao (k5 p hp)];exact n,r⟩
 ·by_cases hb:b=a
  ·subst hb;rw[ah]at q;cases q;exact new
  ·rw[ao hb]at q
   exact(I.hok b u q).stay (λc v _ r=>r) (λc r=>by rw[ao (aP r hn)];exact r) λc xs r=>by rw[ao (aP r hn)];exact r
structure XB(K:PySem.W.Frag)(D:Addr):Prop where
 hd:PySem.W.hasDictIn K D=true
 ty:PySem.W.typeIn K (.ref D)=some (.type "type")
 be:PySem.W.mroIn K D (.type "BaseException")=some true
theorem Hu{M:Model}{A:Around}{E:Value->Shared->Prop}{s:Shared}{K:PySem.W.Frag}{Q:Bool->Shared->Prop}{ea C D:Addr}{o:Obj}{b:Bool}(k:K.In s.heap)(he:s.heap.get? ea=some o)(hc:o.cls= .ref C)
  (h0:PySem.W.subIn K (.ref C) (.ref D)=some b) (h2:XB K D) (q:Q b s):wpAny M A (excMatches (.ref ea) (.ref D)) Q E s:=by
 have h1:PySem.W.kitCls K (.ref C) (.ref D)=some b:=by
  obtain⟨cd,hcd,_⟩:=PySem.W.any_some h2.hd
  show(if((PySem.W.clsIn K D).isSome&&PySem.W.typeIn K (.ref D)==some (.type "type"))=true then PySem.W.subIn K (.ref C) (.ref D)else none)=some b
  rw[if_pos (by rw[hcd,h2.ty];simp)]
  exact h0
 obtain⟨lt,li,ls⟩:=PySem.W.kit_cls (M:=M) k h1
 have lb:=PySem.W.looks_mroIn (M:=M) k h2.be
 have le:PySem.W.Looks M s.heap (typeOf (.ref ea)) (.ref C):=by
  intro A' Q' E' s' kk qq
  unfold typeOf
  exact wpAny_bind (wpAny_loadPart (kk _ _ he) (wpAny_pure (by rw[hc];exact qq)))
 have l0:PySem.W.Looks M s.heap (isInstance (.ref D) (.type "tuple")) false:=lt.andThen (PySem.W.Looks.of_pure tc_notTuple)
 have l1:PySem.W.Looks M s.heap (isExcClass (.ref D)) true:=by
  unfold isExcClass
  exact li.andThen lb
 unfold excMatches
 refine wpAny_bind (l0.here (wpAny_bind ?_))
 simp only[Bool.false_eq_true,if_false]
 refine wpAny_pure ?_
 rw[List.forIn_cons]
 refine wpAny_bind (wpAny_bind (wpAny_bind (l1.here ?_)))
 simp only[Bool.not_true,Bool.false_eq_true,if_false]
 refine wpAny_pure (wpAny_pure ?_)
 refine wpAny_bind (le.here (wpAny_bind ?_))
 rw[List.forIn_cons]
 refine wpAny_bind (wpAny_bind (ls.here ?_))
 cases b with
 |true =>
  simp only[if_true]
  exact wpAny_pure (wpAny_pure (wpAny_pure q))
 |false =>
  simp only[Bool.false_eq_true,if_false]
  exact wpAny_pure (wpAny_pure (wpAny_pure q))
theorem name_goes{X:Cx}{pins:List (Addr×Obj)}{σ:St}{H:Hp}{s:Shared}{M:Model}{A:Around}{E:Value->Shared->Prop}{Q:Unit->Shared->Prop}{i:Nat}{n:Str}{pos:Pos}(I:Inv X pins σ H s)(hN:X.N.Nodup)(hi:X.N[i]? =some n)(hl:X.env.scope.names.lookup n=some .local)
  (h:∀s',Inv X pins (σ.set i none) H s'->Q () s'):wpAny M A (do bindName X.env n .none;unbindBehindTheSuite X.env n pos) Q E s:=by
 obtain⟨m,hn,hlk⟩:=I.loc
 refine wpAny_nameGoes_keeps hl hn (by rw[I.ok.kind];rfl) λh' v hn' sb=>h _ ?_
 have cellK:∀x c,X.env.cells.lookup x=some c->∀v,s.heap.IsCell c v->h'.IsCell c v:=λx c e v ⟨o,ho,hd⟩=>⟨o,(sb.2 c (I.Nd x c e)).trans ho,hd⟩
 refine⟨I.ok,I.os,I.bare,I.base.same λb o e=>sb.2 b (Nat.ne_of_lt (Nat.lt_of_lt_of_le (Heap.lt_size e) I.ok.above)),⟨_,hn',λj y u e1 e2 e3=>?_⟩,λx c e=>?_,I.free,I.kc,λp hp=>?_,I.hok.but I.free sb,by rw[List.length_set];exact I.len,Nat.le_succ_of_le I.up⟩
 ·have ji:i≠j:=λz=>by
   subst z
   rw[List.getElem?_set_self (by rw[I.len];exact(List.getElem?_eq_some_iff.mp hi).1)]at e2
   cases e2
  rw[List.getElem?_set_ne ji]at e2
  obtain⟨w,rv,l⟩:=hlk j y u e1 e2 e3
  refine⟨w,rv,?_⟩
  rcases l with⟨k1,k2⟩|⟨k,c,e,z⟩
  ·refine .inl ⟨k1,?_⟩
   have ne:y≠n:=λz=>ji (xC hN hi (z▸e1))
   show(if y=n then v else m y)=some w
   rw[if_neg ne]
   exact k2
  ·exact .inr ⟨k,c,e,cellK y c e _ z⟩
 ·obtain⟨v,z⟩:=I.cell x c e
  exact⟨v,cellK x c e v z⟩
 ·obtain⟨e,hh,ne,r⟩:=I.pin p hp
  exact⟨(sb.2 _ ne).trans e,hh,ne,r⟩
def tAs(K:PySem.W.Frag)(C:Addr)(i:Nat)(ts:TS)(th:TH):TH:=λcls od D σ H=>∃Ce b,cls= .ref Ce/\PySem.W.subIn K (.ref Ce) (.ref C)=some b ∧
 if b=true then ∀ea,H ea=none->ts (D.un i) (σ.set i (some (.ref ea))) (upd H ea (K0 ea cls od))else th cls od D σ H
theorem MP{X:Cx}{i:Nat}{n x:Str}{C:Addr}{b₀:Stmt}{suite:List Stmt}{np pos:Pos}{rest:List ExceptHandler}{ts:TS}{th:TH}(hN:X.N.Nodup)(hi:X.N[i]? =some n)(hl:X.env.scope.names.lookup n=some .local)(hg:Gl X x)(hm:X.mg x=some (.ref C))
  (JQ:XB X.K C) (hsu:∀ea,Aa (X.within ea) (b₀::suite) ts) (hr:PH X rest th) (hdb:(x==("__debug__" :Str))=false:=by decide) :
  PH X (.ExceptHandler (some (.Name x np)) (some n) (b₀::suite) pos::rest) (tAs X.K C i ts th):=by
 intro pins s σ H D ea cls od I x h
 obtain⟨Ce,b,rfl,hk,h⟩:=h
 obtain⟨pe,vs,sl,he,hT⟩:=id x
 refine wpAny_handleBy_cons (codeAny_handlers_test (nP (X:=X.within ea) (I.within ea) hg hm ?_ hdb)) (by intro q;cases q)
 refine Hu I.pI he rfl hk JQ ?_
 cases b with
 |false=>exact hr pins s σ H D ea _ od I x h
 |true =>
  refine codeAny_handlers_suite_as ?_
  refine sj (fr:=frs X.stack) x λh1 n1 x1=>?_
  have I1:=I.noted n1
  obtain⟨Zg,vs1,Wy,UB,_⟩:=id x1
  have I2:Inv X pins σ (upd H ea (K0 ea (.ref Ce) od)) { s with heap:=h1 }:=I1.Ir Zg ⟨⟨vs1,Wy,UB⟩,⟨_,UB⟩,λh1 h2 ⟨v,s',e⟩ k=>⟨v,s',k _ e⟩⟩
  refine wM (X:=X.within ea) (I2.within ea) hN hi (.inl hl) (v:=.ref ea) rfl (λs2 I3=>?_) (.inr hl)
  have z:=hsu ea pins s2 _ _ (D.un i) I3 (h ea Zg.1)
  refine wpAny_mono z (λf s3 q=>?_) λ_ _ z=>False.elim z
  cases f with
  |next =>
   obtain⟨σ',H',J,q⟩:=q
   exact name_goes (J.behind I.ok) hN hi hl λs4 J4=>⟨_,_,J4,q⟩
  |brk =>
   obtain⟨σ',H',J,q⟩:=q
   exact name_goes (J.behind I.ok) hN hi hl λs4 J4=>⟨_,_,J4,q⟩
  |cont =>
   obtain⟨σ',H',J,q⟩:=q
   exact name_goes (J.behind I.ok) hN hi hl λs4 J4=>⟨_,_,J4,q⟩
  |ret u =>
   obtain⟨v,σ',H',J,rv,q⟩:=q
   exact name_goes (J.behind I.ok) hN hi hl λs4 J4=>⟨v,_,_,J4,rv,q⟩
theorem O5{X:Cx}:PH X [] λ_ _ _ _ _=>False:=λ_ _ _ _ _ _ _ _ _ _ h=>False.elim h
def OS(sp:Sp)(yo:List V)(E:St->XK)(t:TA):TE:=λσ H Q=>t σ H λvs H1=>sp (vs++yo) H1 Q (E σ)
section
variable{X:Cx}{k:Nat}{f C:Addr}{fd:FuncData}{ps:List Str}{sp:Sp}{yo:List V}{ds:List Value}{E:St->XK}{x:Str}{p pos:Pos}{e:Expr}{es:List Expr}{t:TA}
theorem Jf(F:aI X.prog X.w X.K X.mg X.base (vz X.prog X.w) k f fd ps sp)(hr:jO k X.A)(hg:Gl X x)(hm:X.mg x=some (.ref f))(hk:PySem.W.keepIn X.K (.ref f)=true)(hb:Binds X.K fd ps ds)(hd:Vals yo ds)(LX:Lets X E)
  (ha:PA X (e::es) t) (hdb:(x==("__debug__" :Str))=false:=by decide) (he:starEach (e::es) X.env=(false,eval e X.env)::starEach es X.env:=by rfl) (hpl:(backTo pos (starEach es X.env)).any (·.1)=false:=by rfl) :
  PE X (.Call (.Name x p) (e::es) [] pos) (OS sp yo E t):=by
 intro pins s σ H Q I h
 refine wpAny_Call_Name_kw (nP I hg hm ?_ hdb)
 refine PySem.W.callWith_K (h₀:=X.base) I.ok.mod.MW hk (fh (ha pos pins s σ H _ I h) λus s1 ⟨vs,H1,I1,r,q⟩=>⟨I1.pI,?_⟩) he hpl
 have r2:Vals (vs++yo) (us++ds):=r.append hd
 have hl:(us++ds).length=ps.length:=by rw[←r2.length];exact F.len _ _ _ _ q
 refine wpAny_call (codeAny_mono (F.run X.A X.stack s1 H1 ⟨us,[]⟩ (us++ds) (vs++yo) Q (E σ) hr I1.Mp (hb s1 us I1.pI hl) r2 q) λrr s' hq=>?_)
 cases rr with
 |error e=>exact LX.pass I1 hq
 |ok fl =>
  cases fl with
  |ret u=>exact I1.after hq
  |next=>exact False.elim hq
  |brk=>exact False.elim hq
  |cont=>exact False.elim hq
end
end L2
namespace L2
open PySem PySem.Spec PyProof.Rows
end L2
namespace L2
open PySem PySem.Spec PyProof.Rows
section
variable{X:Cx}
abbrev TJ:=St->Hp->Str->(Str->Hp->Prop)->Prop
def PJ(X:Cx)(es:List Expr)(tj:TJ):Prop:=∀(pins:List (Addr×Obj)) (s:Shared) (σ:St) (H:Hp) (acc:Str) (R:Str->Hp->Prop),Inv X pins σ H s->tj σ H acc R →
 Joins (model X.prog X.w) X.A X.xe (evalEach es X.env) acc (λout s1=>out.length<=sizeLine/\∃H1,Inv X pins σ H1 s1/\R out H1) s
theorem I9:PJ X [] (λ_ H acc R=>acc.length<=sizeLine/\R acc H):=λ_ _ _ H _ _ I h=>⟨h.1,H,I,h.2⟩
theorem qL{e:Expr}{es:List Expr}{te:TE}{tj:TJ}(he:PE X e te)(hr:PJ X es tj)(hx:evalEach (e::es) X.env=eval e X.env::evalEach es X.env:=by rfl):
  PJ X (e::es) (λσ H acc R=>te σ H λv H1=>∃y,v= .str y/\(acc++y).length<=sizeLine/\tj σ H1 (acc++y) R):=by
 intro pins s σ H acc R I h
 rw[hx]
 refine fh (he pins s σ H _ I h) λu s1 ⟨v,H1,I1,r,y,e1,hl,q⟩=>?_
 subst e1
 obtain⟨t,rfl⟩:=r
 exact⟨y,t,rfl,hl,hr pins s1 σ H1 _ R I1 q⟩
theorem zK{M:Model}{A:Around}{E:Value->Shared->Prop}:∀{parts:List (Sem Value)} {acc:Str} {Q Q':Str->Shared->Prop} {s:Shared},Joins M A E parts acc Q s->(∀out s1,Q out s1->Q' out s1)->Joins M A E parts acc Q' s
 |[],_,_,_,_,h,k=>k _ _ h
 |_::_,_,_,_,_,h,k=>fh h λ_ _ ⟨y,t,e,hl,q⟩=>⟨y,t,e,hl,zK q k⟩
theorem F0{v₁ v₂:Expr}{rest:List Expr}{pos:Pos}{tj:TJ}(h:PJ X (v₁::v₂::rest) tj):PE X (.JoinedStr (v₁::v₂::rest) pos) (λσ H Q=>tj σ H Str.empty λout H1=>Q (.str out) H1):=by
 intro pins s σ H Q I q
 refine wpAny_JoinedStr (zK (h pins s σ H Str.empty _ I q) λout s1 ⟨hl,H1,I1,q1⟩=>⟨hl,.str out,H1,I1.tok _,⟨_,rfl⟩,q1⟩)
theorem Ls{value:Expr}{pos:Pos}{te:TE}(he:PE X value te):PE X (.FormattedValue value 114 none pos) (λσ H Q=>te σ H λv H1=>∃x,v= .str x/\(reprText x).length<=sizeLine/\Q (.str (reprText x)) H1):=by
 intro pins s σ H Q I h
 refine wpAny_FormattedValue_repr (fh (he pins s σ H _ I h) λu s1 ⟨v,H1,I1,r,x,e,hl,q⟩=>?_)
 subst e
 obtain⟨t,rfl⟩:=r
 refine wpAny_pyReprObj_str (x:=x) ?_ hl
 exact wpAny_formatField_str ⟨.str (reprText x),H1,I1.tok _,⟨_,rfl⟩,q⟩ ⟨.str (reprText x),H1,(I1.tok _).tok _,⟨_,rfl⟩,q⟩ hl
theorem Jd{value:Expr}{pos:Pos}{te:TE}(he:PE X value te):PE X (.FormattedValue value (-1) none pos) (λσ H Q=>te σ H λv H1=>∃i:Int,v= .int i/\i.natAbs.log2<1920/\Q (.str (Str.ofString (toString i))) H1):=by
 intro pins s σ H Q I h
 refine wpAny_FormattedValue_plain (fh (he pins s σ H _ I h) λu s1 ⟨v,H1,I1,r,i,e,hl,q⟩=>?_)
 subst e
 obtain⟨t,rfl⟩:=r
 exact wpAny_formatField_int hl ⟨.str (Str.ofString (toString i)),H1,I1.tok _ (by show s1.toks<=_;omega),⟨_,rfl⟩,q⟩
end
structure Nh(K:PySem.W.Frag)(C:Addr):Prop where
 ga:PySem.W.findIn K (.ref C) "__getattribute__" =some (some (.builtin "BaseException.__getattribute__"))
 gn:PySem.W.findIn K (.ref C) "__getattr__" =some none
 hd:PySem.W.hasDictIn K C=true
 ha:PySem.W.findIn K (.ref C) "__class__" =some (some (.builtin "object.__class__"))
 hn:PySem.W.specialIn K (.builtin "object.__class__") "__get__" =some (some (.builtin "getset_descriptor.__get__"))
 htk:PySem.W.takesIn K (.builtin "object.__class__")=some true
 hm:PySem.W.mroIn K C (.type "object")=some true
 hb:PySem.W.mroIn K C (.type "BaseException")=some true
theorem Hv{prog:Program}{w:World}{A:Around}{E:Value->Shared->Prop}{s:Shared}{K:PySem.W.Frag}{x C:Addr}{ox:Obj}{od:Option Obj}{Q:Option Value->Shared->Prop}(Z:Nh K C)(k:K.In s.heap)(I:PySem.W.InstAt s.heap x ox C od)
  (h:Q (some (.ref C)) { s with toks:=s.toks+1 }):wpAny (model prog w) A (getAttr? (.ref x) "__class__") Q E s:=by
 obtain⟨hh,g,d,t,os⟩:=s
 have L0:=I.type (M:=model prog w)
 have L1:=PySem.W.looks_findIn (M:=model prog w) k Z.ga
 have L2:=PySem.W.looks_findIn (M:=model prog w) k Z.gn
 have LB:=PySem.W.looks_mroIn (M:=model prog w) k Z.hb
 have hf:PySem.W.findObj K C od "__class__" =some (.bind (.builtin "getset_descriptor.__get__") (.builtin "object.__class__")):=by
  obtain⟨cd,hc,_⟩:=PySem.W.any_some Z.hd
  unfold PySem.W.findObj
  rw[hc,Option.bind_some,Z.ha,Option.bind_some]
  simp[Z.hn,Z.htk]
 have LF:=PySem.W.looks_find (M:=model prog w) k I hf
 unfold getAttr? getAttrBy? getAttrBy
 refine wpAny_bind (wpAny_mkText (wpAny_bind (wpAny_attempt (wpAny_holding (wpAny_bind (L0.at (wpAny_bind (L1.at ?_))))))))
 show wpAny _ _ (getAttrByItsOwn _ _ _ _ _ _) _ _ _
 unfold getAttrByItsOwn hookBefore
 refine wpAny_bind (L2.at ?_)
 refine wpAny_bind (wpAny_attempt (wpAny_holding ?_))
 show wpAny _ _ (boundAndCalled _ _ _) _ _ _
 unfold boundAndCalled
 refine wpAny_bind (wpAny_of_eq (PySem.F.attr_ValueError.ga.bind (.ref x)) ?_)
 show wpAny _ _ (call (.builtin "BaseException.__getattribute__") [.ref x,.str "__class__" t]) _ _ _
 refine wpAny_call (codeAny_call_builtin PySem.F.attr_ValueError.ga.plain PySem.F.entry_bexc_ga ?_)
 have c1:builtinKind "BaseException.__getattribute__" =some .slot:=by decide +kernel
 have c2:splitId "BaseException.__getattribute__" =some ("BaseException","__getattribute__"):=by decide +kernel
 have c3:=PySem.F.args_bexc_ga (.ref x) (.str "__class__" t)
 simp only[checkBuiltinCall,c1,c2]
 refine wpAny_bind (wpAny_bind (L0.at (LB.at ?_)))
 simp only[Bool.not_true,Bool.false_eq_true,if_false]
 unfold argsOk at c3
 refine wpAny_of_eq c3 ?_
 unfold Builtin.«object.__getattribute__»
 refine wpAny_bind (wpAny_pure (wpAny_bind (wpAny_pure (wpAny_bind (L0.at (wpAny_bind (LF.at ?_)))))))
 show wpAny _ _ (holding [.builtin "object.__class__"] (call (.builtin "getset_descriptor.__get__") [.builtin "object.__class__",.ref x,.ref C]) >>= ret) _ _ _
 refine wpAny_bind (wpAny_holding (wpAny_call (PySem.W.class_get (ox:=ox) (od:=od) k I Z.hm ?_)))
 refine wpAny_pure ?_
 show wpAny _ _ (handedOut (.ref C)) _ _ _
 exact PySem.W.handed_on rfl (wpAny_pure h)
end L2
namespace L2
open PySem PySem.Spec PyProof.Rows
theorem C4{K:PySem.W.Frag}{x C:Addr}{ox:Obj}{od:Option Obj}(Z:Nh K C):PySem.W.KitX K (.ref x) (.ref C) (λh=>PySem.W.InstAt h x ox C od) where
 ty:=λ_ _ _ I=>I.type
 it:=λ_ _ k _=>by
  obtain⟨cd,hcd,_⟩:=PySem.W.any_some Z.hd
  unfold PySem.W.clsIn at hcd
  split at hcd
  ·rename_i c1 d1 cd1 Wy hob
   intro A1 Q1 E1 s1 kk q
   unfold isType loadHead
   exact wpAny_bind (wpAny_loadPart (kk _ _ (k _ _ hob)) (wpAny_pure q))
  ·cases hcd
 ne:=λh tp dd its n sl k htp=>by
  obtain⟨cd,hcd,_⟩:=PySem.W.any_some Z.hd
  refine Bool.eq_false_iff.mpr λq=>?_
  have e:=Value.ref.inj (beq_iff_eq.mp q)
  subst e
  unfold PySem.W.clsIn at hcd
  split at hcd
  ·rename_i c1 d1 cd1 Wy hob
   have z:=(k _ _ hob).symm.trans htp
   cases z
  ·cases hcd
 ca:=λk I q=>Hv Z k I q
end L2
namespace GP
open PySem L2 sy
theorem Kz{x:Str}(h:x.length<=20)(hz:100<=sizeLine):(Str.empty++x).length<=sizeLine:=by
 rw[strLen_append]
 have:Str.empty.length=0:=rfl
 omega
theorem z5{x y:Str}(h:x.length<=20)(hz:y.length+20<=sizeLine):((Str.empty++x)++y).length<=sizeLine:=by
 rw[strLen_append,strLen_append]
 have:Str.empty.length=0:=rfl
 omega
end GP
namespace L2
open PySem PySem.Spec PyProof.Rows
theorem IS{X:Cx}:SlR X (λx lo hi H Q=>∃y,x= .str y/\y.length<=sizeLine/\Q (.str (Txt.slice y lo hi)) H):=by
 intro pins s σ H x v vl vu lo hi sl Q I rx hs pl pu h
 obtain⟨y,rfl,hz,q⟩:=h
 obtain⟨t,rfl⟩:=rx
 refine⟨"str",_,PySem.F.slot_str_getitem.lookup,typeIs_str _ _ _,?_⟩
 have fin:(Txt.slice y lo hi).length<=sizeLine/\∀t' k,s.toks<=k->EP X pins σ Q (.str (Txt.slice y lo hi) t') { s with toks:=k }:=⟨Nat.le_trans (Txt.slice_le y _ _) hz,λt' k hk=>⟨.str (Txt.slice y lo hi),H,I.tok k hk,⟨_,rfl⟩,q⟩⟩
 refine TK.bY (Nat.le_refl s.toks) ?_
 cases pl with
 |none =>
  cases pu with
  |none=>exact wpAny_getItem_str_slice (l:=none) (u:=none) (st:=none) hs rfl (post_val_or_str fin)
  |int j u=>exact wpAny_getItem_str_slice (l:=none) (u:=some (j,u)) (st:=none) hs rfl (post_val_or_str fin)
 |int i u =>
  cases pu with
  |none=>exact wpAny_getItem_str_slice (l:=some (i,u)) (u:=none) (st:=none) hs rfl (post_val_or_str fin)
  |int j u'=>exact wpAny_getItem_str_slice (l:=some (i,u)) (u:=some (j,u')) (st:=none) hs rfl (post_val_or_str fin)
end L2
namespace GP
open PySem L2 sy
theorem qC{x y:Str}:(x++y).cps.toList=x.cps.toList++y.cps.toList:=by
 show(x.cps++y.cps).toList=_
 exact Array.toList_append ..
theorem rQ{α β:Type}{F:α->β->Prop}:∀{l₁ l₃:List α} {l₂ l₄:List β},Paired F l₁ l₂->Paired F l₃ l₄->Paired F (l₁++l₃) (l₂++l₄)
 |_,_,_,_,.nil,s=>s
 |_,_,_,_,.cons r t,s=>.cons r (rQ t s)
end GP
namespace L2
open PySem PySem.Spec PyProof.Rows
section
variable{prog:Program}{w:World}{A:Around}{E:Value->Shared->Prop}{h:Heap}{gs:Array GenState}{dr:Drawn}{tk:Nat}{os:OsState}
variable{nm qn:Str}{C N:Addr}{bs tl bmB bmN:List Value}{hdct:Bool}{sn:List Str}{sub:List Value}{ab:Bool}{col:Option Bool}{dd:Option Addr}{k0 k1 k2 k3 k5:Option Value}{B Bn newId nid initId inN:String}
theorem wJ{mN:Str->Option Value}{rest:List Value}{fI:Addr}{oI:Obj}{Q:Fin->Shared->Prop}(Fn:ExcBaseFacts Bn newId inN bmN)(hBn:bmB.contains (.type Bn)=true)(FB:ExcBaseFacts B nid initId bmB)(T:OwnTail h bmB tl)
  (hob:h.get? C=some (excClassObj nm qn C N bs tl hdct sn sub ab col dd k0 k1 k2 k3 k5 newId)) (hns:h.Ns N mN) (Qc:mN "__init__" =some (.ref fI)) (hfo:h.get? fI=some oI) (hfc:oI.cls= .type "function")
  (hq:∀h' e,Heap.MadeExcOf h h' e (.ref C) rest->wpAny (model prog w) A (call (.ref fI) (.ref e::rest)) (λr s'=>r= .none/\Q (.done (.ret (.ref e))) s') E ⟨h',gs,dr,tk,os⟩) (hz:rest.length<=sizeLine) :
  wpAny (model prog w) A (Builtin.«type.__call__» ⟨.ref C::rest,[]⟩) Q E ⟨h,gs,dr,tk,os⟩:=by
 repeat (first|with_reducible refine wpAny_loadPart_at hob ?_|with_reducible refine wpAny_madeBy_exc hob ?_|wp_step)
 refine codeAny_call_builtin_code (Code.quiet_builtin _ Fn.quiet) (wpAny_check_new_subU Fn hBn T hob ?_)
 refine codeAny_exc_new_subU Fn hBn FB T hob ?_ hz
 show wpAny _ _ _ _ _ _
 have kp:∀b o,h.get? b=some o->((h.push { cls:=.type "tuple",data:=.seq rest.toArray }).push { cls:=.ref C,data:=.fields #[.ref h.objs.size,.none,.none,.none,.bool false,.none] }).get? b=some o:=λb o e=>Heap.get?_push_of_some _ (Heap.get?_push_of_some _ e)
 have SN:=kp _ _ hob
 have X3:=kp _ _ hfo
 have XH:=hns.keeps kp
 have T1:=T.keeps kp
 have Na:((h.push { cls:=.type "tuple",data:=.seq rest.toArray }).push { cls:=.ref C,data:=.fields #[.ref h.objs.size,.none,.none,.none,.bool false,.none] }).get? (h.objs.size+1)=some { cls:=.ref C,data:=.fields #[.ref h.objs.size,.none,.none,.none,.bool false,.none] }:=by heap_get
 have hself:(Value.ref C::tl).contains (.ref C)=true:=by simp
 unfold isInstance
 repeat (first|with_reducible refine wpAny_loadPart_at Na ?_|(with_reducible refine wpAny_isSubtype_exc SN ?_;rw[hself])|wp_step)
 show wpAny _ _ (typeLookup (.ref C) _) _ _ _
 refine wpAny_typeLookup_tail SN XH T1 FB.mroIs FB.init.lookup ?_
 rw[Qc]
 refine wpAny_holding (wpAny_bind ?_)
 unfold bindSpecial
 refine wpAny_bind (wpAny_typeOf (T:= "function") ⟨_,X3,hfc⟩ ?_)
 rw[if_pos (by decide)]
 have made:Heap.MadeExcOf h ((h.push { cls:=.type "tuple",data:=.seq rest.toArray }).push { cls:=.ref C,data:=.fields #[.ref h.objs.size,.none,.none,.none,.bool false,.none] }) (h.objs.size+1) (.ref C) rest :=
  ⟨kp,Heap.get?_none_of_le (Nat.le_succ _),h.objs.size,Na,Heap.get?_none_of_le (Nat.le_refl _),Heap.get?_push_of_some _ (Heap.get?_push_at rfl rfl)⟩
 refine wpAny_pure (wpAny_bind (wpAny_mono (hq _ _ made) (λr s' hr=>?_) λ_ _ x=>x))
 obtain⟨rfl,hQ⟩:=hr
 wp_walk
 exact hQ
theorem HC{mN:Str->Option Value}{rest:List Value}{fI:Addr}{oI:Obj}{Q:Value->Shared->Prop}(Fn:ExcBaseFacts Bn newId inN bmN)(hBn:bmB.contains (.type Bn)=true)(FB:ExcBaseFacts B nid initId bmB)(T:OwnTail h bmB tl)
  (hob:h.get? C=some (excClassObj nm qn C N bs tl hdct sn sub ab col dd k0 k1 k2 k3 k5 newId)) (hns:h.Ns N mN) (Qc:mN "__init__" =some (.ref fI)) (hfo:h.get? fI=some oI) (hfc:oI.cls= .type "function")
  (hq:∀h' e,Heap.MadeExcOf h h' e (.ref C) rest->wpAny (model prog w) (A.under (.builtin "type.__call__" ⟨.ref C::rest,[]⟩)) (call (.ref fI) (.ref e::rest)) (λr s'=>r= .none/\Q (.ref e) s') E ⟨h',gs,dr,tk,os⟩) (hz:rest.length<=sizeLine) :
  wpAny (model prog w) A (call (.ref C) rest) Q E ⟨h,gs,dr,tk,os⟩:=by
 have l1:=tc_lookup
 have l2:=tc_bind (.ref C)
 have hTy:(⟨h,gs,dr,tk,os⟩:Shared).TypeIs (.ref C) "type" :=⟨_,hob,rfl⟩
 refine wpAny_call (codeAny_of_tree ?_)
 show wpAny _ _ (callAny (.ref C) _) _ _ _
 repeat (any_goals (first|assumption|with_reducible refine wpAny_loadPart_at hob ?_|wp_step))
 refine⟨rfl,codeAny_call_builtin_at (Code.quiet_builtin _ (by decide +kernel)) entry_typeCall (wpAny_check_type_call_sub hob (wJ Fn hBn FB T hob hns Qc hfo hfc (λh' e hm=>?_) hz))⟩
 exact hq h' e hm
end
end L2
namespace L2
open PySem PySem.Spec PyProof.Rows
def newX(e C:Addr)(od:Option Addr):HO:=.ext λh=>∃vs sl,h.get? e=some ⟨.ref C,od,.fields vs,sl⟩/\vs[1]? =some .none/\vs[2]? =some .none/\4<vs.size
def zm(dx:Addr)(fs:List (Str×V)):HO:=.ext λh=>∃mA,h.Ns1 dx mA/\(∀f,nh (fs.lookup f) (mA f))/\PySem.Within mA (fs.map (·.1))
section
variable{P:Program}{w:World}{H:Hp}{h:Heap}
theorem AX{e C:Addr}{od:Option Addr}{vs:Array Value}{sl:Array (Option Value)}(he:h.get? e=some ⟨.ref C,od,.fields vs,sl⟩)(h1:vs[1]? =some .none/\vs[2]? =some .none/\4<vs.size):bQ P w H h e (newX e C od) :=
 ⟨⟨vs,sl,he,h1⟩,⟨_,he⟩,λ_ _ ⟨v,s,e,z⟩ k=>⟨v,s,k _ e,z⟩⟩
theorem D0{dx:Addr}{fs:List (Str×V)}{mA:Str->Option Value}(n:h.Ns1 dx mA)(r:∀f,nh (fs.lookup f) (mA f))(wi:PySem.Within mA (fs.map (·.1))):bQ P w H h dx (zm dx fs) :=
 ⟨⟨mA,n,r,wi⟩,(let ⟨o,_,_,e,_⟩:=n;⟨o,e⟩),λ_ _ ⟨m,n,r,wi⟩ k=>⟨m,n.at k,r,wi⟩⟩
end
def del(H:Hp)(e:Addr):Hp:=λb=>if b=e then none else H b
theorem ql{H:Hp}{e b:Addr}(h:b≠e):del H e b=H b:=by unfold del;rw[if_neg h]
theorem Ds{H:Hp}{e:Addr}:del H e e=none:=by unfold del;rw[if_pos rfl]
theorem tK{H:Hp}{e b:Addr}(h:H b=none):del H e b=none:=by unfold del;split<;>first|rfl|exact h
theorem Nu{H:Hp}{a:Addr}{o:HO}(h:H a=some o):upd H a o=H:=by
 funext b
 unfold upd
 split
 ·rename_i z;rw[z,h]
 ·rfl
section
variable{X:Cx}{pins:List (Addr×Obj)}{σ:St}{H:Hp}{s:Shared}
theorem Inv.drop{e:Addr}{φ:Heap->Prop}(I:Inv X pins σ H s)(he:H e=some (.ext φ)):Inv X pins σ (del H e) s:=by
 have ne:∀{b:Addr} {o:HO},H b=some o->(∀ ψ,o≠ .ext ψ)->b≠e:=λ{b o} hb n z=>by
  subst z
  rw[he]at hb
  exact n _ (Option.some.inj hb).symm
 refine⟨I.ok,I.os,I.bare,⟨I.base.keep,I.base.slot,λb ob q n hx=>tK (I.base.free b ob q n hx),I.base.there,λb xs q=>?_,λb ob u q=>?_,λb ps q=>?_⟩,I.loc,I.cell,tK I.free,λx c q=>tK (I.kc x c q),λp hp=>?_,λb u q=>?_,I.len,I.up⟩
 ·have q':=I.base.tups b xs q
  rw[ql (ne q' λψ z=>by cases z)];exact q'
 ·have q':=I.base.r9 b ob u q
  rw[ql (ne q' λψ z=>by cases z)];exact q'
 ·obtain⟨more,q'⟩:=I.base.sJ b ps q
  exact⟨more,by rw[ql (ne q' λψ z=>by cases z)];exact q'⟩
 ·obtain⟨a,n,r⟩:=I.pin p hp
  exact⟨a,tK n,r⟩
 ·have hb:b≠e:=λz=>by rw[z,Ds]at q;cases q
  rw[ql hb]at q
  exact(I.hok b u q).stay (λc v _ r=>r) (λc r=>by rw[ql (ne r λψ z=>by cases z)];exact r) λc xs r=>by rw[ql (ne r λψ z=>by cases z)];exact r
end
section
variable{M:Model}{A:Around}{E:Value->Shared->Prop}{env:Env}
variable{nm q:Str}{C N:Addr}{bs bm:List Value}{hdct:Bool}{sn:List Str}{sub:List Value}{ab:Bool}{col:Option Bool}{dd:Option Addr}{k0 k1 k2 k3 k5:Option Value}{newId:String}
theorem Em {s:Shared} {x:Sem Value} {Q:Flow->Shared->Prop} (hbase:bm.contains (.type "BaseException")=true) (hh:A.handled=none)
  (h:wpAny M A x (λv s₁=>∃e od vs sl,v= .ref e/\s₁.heap.get? C=some (excClassObj nm q C N bs bm hdct sn sub ab col dd k0 k1 k2 k3 k5 newId) ∧
   s₁.heap.get? e=some ⟨.ref C,od,.fields vs,sl⟩/\vs[1]? =some .none/\E (.ref e) s₁) E s):wpAny M A (raiseStmt env (some x) none) Q E s:=by
 have hcB:(Value.ref C::bm).contains (.type "BaseException")=true:=by rw[List.contains_cons,hbase,Bool.or_true]
 unfold raiseStmt
 refine wpAny_bind (wpAny_mono h (λv s₁ h₁=>?_) λ_ _ x=>x)
 obtain⟨e,od,vs,sl,rfl,hC,he,hv,hE⟩:=h₁
 obtain⟨hp,g,d,tk,os⟩:=s₁
 repeat (first|with_reducible refine wpAny_loadPart_at he ?_|with_reducible refine wpAny_loadPart_at hC ?_|(with_reducible refine wpAny_isSubtype_exc hC ?_;rw[hcB])|wp_step)
 rw[hv]
 refine wpAny_pure ?_
 rw[if_neg (by decide)]
 exact wpAny_pure (wpAny_raiseNew_none hh hE)
end
def Ik:List Value:=[.type "ValueError",.type "Exception",.type "BaseException",.type "object"]
structure Gx(K:PySem.W.Frag)(C fI:Addr):Prop where
 obj:∀h:Heap,K.In h->∃d:XP,h.get? C=some (d.obj C "ValueError.__new__")/\h.Ns d.N d.mN/\d.mN "__init__" =some (.ref fI)/\OwnTail h Ik d.bm
def EZ(K:PySem.W.Frag)(C fI:Addr):Bool:=match K.lookup C with
 |some ⟨.type "type",_,.cls cd,sl⟩=>(match cd.mro,sl.toList with
  | .ref C'::bm,[_,_,_,_,some (.builtin n),_]=>C'==C&&n== "ValueError.__new__" && !cd.hasDel&&PySem.W.tailIn K Ik bm&&PySem.W.nsOkIn K cd.ns&&PySem.W.nsIn K cd.ns "__init__" ==some (some (.ref fI))
  |_,_=>false)
 |_=>false
theorem Ey{K:PySem.W.Frag}{h:Heap}{N:Addr}{mg:Str->Option Value}{n:Str}{v:Value}(X:K.In h)(G:h.Ns N mg)(e:PySem.W.nsIn K N n=some (some v)):mg n=some v:=by
 obtain⟨o,es,ep,ho,hd,_,hf⟩:=G
 unfold PySem.W.nsIn at e
 split at e
 ·rename_i c d es' n' sl q
  have:=X _ _ q
  rw[ho]at this
  cases this
  cases hd
  split at e
  ·rename_i he
   cases e
   rw[←hf]
   unfold nsFind findBy
   rw[←Array.find?_toList,he]
   rfl
  ·split at e
   ·cases e
   ·cases e
 ·cases e
theorem BU{K:PySem.W.Frag}{C fI:Addr}(q:EZ K C fI=true):Gx K C fI:=by
 refine⟨λh k=>?_⟩
 unfold EZ at q
 split at q
 ·rename_i dd cd sl hob
  split at q
  ·rename_i C' bm k0 k1 k2 k3 nn k5 hmr JJ
   simp only[Bool.and_eq_true,beq_iff_eq,Bool.not_eq_true']at q
   obtain⟨⟨⟨⟨⟨e1,e2⟩,e3⟩,e4⟩,e5⟩,e6⟩:=q
   subst e1 e2
   obtain⟨nm,bs,mro,ns,qn,hd,sn,sub,ab,col,del⟩:=cd
   dsimp only at hmr e3 e5 e6
   subst hmr e3
   have hsl:sl= #[k0,k1,k2,k3,some (.builtin "ValueError.__new__"),k5]:=by
    obtain⟨l⟩:=sl
    simp only at JJ
    rw[JJ]
   subst hsl
   have G:h.Ns ns _:=.of_isNs (PySem.W.isNs_of_in k e5)
   exact⟨⟨nm,qn,ns,bs,bm,hd,sn,sub,ab,col,dd,k0,k1,k2,k3,k5,_⟩,k _ _ hob,G,Ey k G e6,PySem.W.tail_of_in k e4⟩
  ·cases q
 ·cases q
structure XBase(K:PySem.W.Frag)(W:Addr):Prop where
 ga:PySem.W.specialIn K (.ref W) "__getattribute__" =some (some (.builtin "type.__getattribute__"))
 rd:PySem.W.readsIn K W (.type "type")=true
 fd:PySem.W.findCls K (.ref W) (.type "type") "__init__" =some (.val (.builtin "ValueError.__init__"))
def rF:List Value->Bool
 |[]=>false
 |v::r=>(v::r)==Ik||match v with| .ref _=>rF r|_=>false
structure Tv(K:PySem.W.Frag)(C:Addr):Prop where
 hd:PySem.W.hasDictIn K C=true
 po:((PySem.W.clsIn K C).any λcd=>rF cd.mro)=true
 sa:PySem.W.findIn K (.ref C) "__setattr__" =some (some (.builtin "object.__setattr__"))
theorem zE(self:Value):∀{l:List Value},rF l=true->refuseLoop self "__setattr__" l=pure ()
 |[],e=>by cases e
 |v::r,e=>by
  unfold rF at e
  rcases Bool.or_eq_true_iff.mp e with q|q
  ·rw[beq_iff_eq.mp q];exact PySem.F.store_ValueError.passes self
  ·split at q
   ·rw[refuseLoop_ref];exact zE self q
   ·cases q
theorem Ij:∀{l:List Value},rF l=true->l.contains (.type "object")=true
 |[],e=>by cases e
 |v::r,e=>by
  unfold rF at e
  rcases Bool.or_eq_true_iff.mp e with q|q
  ·rw[beq_iff_eq.mp q];decide +kernel
  ·split at q
   ·rw[List.contains_cons,Ij q,Bool.or_true]
   ·cases q
end L2
namespace L2
open PySem PySem.Spec PyProof.Rows
def Rq(K:PySem.W.Frag)(t:TA):TE:=λσ H Q=>t σ H λvs H1=>∃e C fI od y,vs=[.ref e,y]/\H1 e=some (newX e C od)/\Gx K C fI/\Q .iz H1
theorem Lw {X:Cx} {x:Str} {W:Addr} {np apos cpos:Pos} {a b:Expr} {t:TA} {pl:Sem Bool} (hW:XBase X.K W) (hg:Gl X x) (hm:X.mg x=some (.ref W)) (ha:PA X [a,b] t) (hdb:(x==("__debug__" :Str))=false:=by decide)
  (hev:eval (.Call (.Attribute (.Name x np) "__init__" apos) [a,b] [] cpos) X.env=(do
   let ov ←eval (.Name x np) X.env
   standAt apos.atName
   let (f,first) ←holding [ov] (getMethod ov "__init__" pl)
   callWith cpos f first (backTo cpos (starEach [a,b] X.env)) (backToKw cpos (keywordEach [] X.env))):=by rfl)
  (hs:starEach [a,b] X.env=(false,eval a X.env)::starEach [b] X.env:=by rfl) (hpl:(backTo cpos (starEach [b] X.env)).any (·.1)=false:=by rfl) :
  PE X (.Call (.Attribute (.Name x np) "__init__" apos) [a,b] [] cpos) (Rq X.K t):=by
 intro pins s σ H Q I h
 refine PySem.W.methodCall_KW (pl:=pl) (nP I hg hm ?_ hdb) hev
 refine PySem.W.method_cls I.pI hW.ga (PySem.W.cls_value I.pI hW.rd hW.fd (by decide +kernel) ?_)
 have hA:=ha cpos pins { s with toks:=s.toks+1 } σ H _ (I.tok _) h
 rw[hs]at hA ⊢
 refine Calls.callWith_builtin (by show(false||(backTo cpos (starEach [b] X.env)).any (·.1))=false;rw[hpl]<;>rfl) (Calls.evalArgs_plain ?_)
 refine fh hA λus s2 ⟨vs,H2,I2,r2,e,C,fI,od,y,e1,hx,O,q⟩=>?_
 subst e1
 obtain⟨u1,u2,rfl,ru1,_⟩:=vals2 r2
 cases (show u1=Value.ref e from ru1)
 obtain⟨⟨vs,sl,he,h1⟩,_,_⟩:=(show bQ X.prog X.w H2 s2.heap e (newX e C od) from I2.hok e _ hx)
 obtain⟨d,hC,hN,hni,T⟩:=O.obj s2.heap I2.pI
 have F:=PySem.F.excBase_ValueError
 have I2':=I2
 obtain⟨hh,gs,dr,tk,os⟩:=s2
 show wpAny _ _ (call (.builtin "ValueError.__init__") [.ref e,u2]) _ _ _
 refine wpAny_call (codeAny_call_builtin F.init.plain F.initEntry (wpAny_check_init_subU F T hC he rfl ?_))
 have hv:0<vs.size:=Nat.lt_of_le_of_lt (Nat.zero_le 1) (Array.getElem?_eq_some_iff.mp h1.1).1
 have hv0:vs[0]? =some vs[0]:=Array.getElem?_eq_getElem hv
 wp_walk
 rw[hv0]
 refine wpAny_pure ?_
 have hg:(hh.push { cls:=.type "tuple",data:=.seq #[u2] }).get? e=some ⟨.ref C,od,.fields vs,sl⟩:=Heap.get?_push_of_some _ he
 refine wpAny_bind (wpAny_setField hg rfl hv ?_)
 have hu:=Heap.get?_update_self (Obj.mapFields (·.setIfInBounds 0 (Value.ref hh.objs.size))) hg rfl
 have fin:EP X pins σ Q Value.none ⟨(hh.push { cls:=.type "tuple",data:=.seq #[u2] }).update e (Obj.mapFields (·.setIfInBounds 0 (Value.ref hh.objs.size))),gs,dr,tk,os⟩:=by
  refine⟨.iz,H2,?_,rfl,q⟩
  have J1:=I2'.kept (h':=hh.push { cls:=.type "tuple",data:=.seq #[u2] }) (t':=tk) λb u z=>Heap.get?_push_of_some _ z
  have J2:=J1.write (x:=e) (e:=e) (o:=newX e C od) (t':=tk) (by rw[hx];exact True.intro) (.inl rfl) (λb u hb z=>(Heap.get?_update_other _ _ (Ne.symm hb)).trans z) ⟨_,hu⟩ (AX hu (by simp[h1]))
  rw[Nu hx]at J2
  exact J2
 cases hq:vs[0]with
 |ref t0=>exact wpAny_letGo (wpAny_pure fin)
 |_=>exact wpAny_pure (wpAny_pure fin)
end L2
namespace L2
open PySem PySem.Spec PyProof.Rows
section
variable{prog:Program}{w:World}{A:Around}{E:Value->Shared->Prop}{s:Shared}{K:PySem.W.Frag}{x dx C:Addr}{name:Str}{v:Value}{R:Result->Shared->Prop}
theorem F1{ox:Obj}{od:Option Obj}{tk:Tok}(X:K.In s.heap)(I:PySem.W.InstAt s.heap x ox C od)(S:Tv K C)(ht:PySem.W.takerIn K C name=some none)
  (h:∀b,wpAny (model prog w) A.in1 (Builtin.ObjectAttr.storeInOwnDict (.ref x) (.ref C) (.str name tk) name v b)
   (λfin s'=>match fin with| .done f=>R (.ok f) s'| .again c'=>c'.quiet=true/\codeAny (model prog w) A c' R s') (λe s'=>R (.error e) s') s) :
  codeAny (model prog w) A (.call (.builtin "object.__setattr__") ⟨[.ref x,.str name tk,v],[]⟩) R s:=by
 have SF:=PySem.F.store_object
 obtain⟨cd,hc,ho⟩:=PySem.W.any_some S.po
 have ne:cd.mro.isEmpty=false:=by cases q:cd.mro with|nil=>rw[q]at ho;cases ho|cons _ _=>rfl
 have sub:PySem.W.Looks (model prog w) s.heap (isInstance (.ref x) (.type "object")) true:=I.type.andThen (PySem.W.looks_mroIn X (by unfold PySem.W.mroIn;rw[hc,Option.bind_some,if_neg (by rw[ne];decide),Ij ho]))
 refine codeAny_call_builtin SF.slot.plain SF.entry (@PySem.W.check_slot (model prog w) _ _ s "object.__setattr__" "object" "__setattr__" (.ref x) [.str name tk,v] [] _ SF.kind SF.split sub (SF.args (.ref x) (.str name tk) v) ?_)
 obtain⟨attr,ha,hr⟩:=Option.bind_eq_some_iff.mp ht
 have hm:PySem.W.Looks (model prog w) s.heap (mroOf (.ref C)) cd.mro:=(PySem.W.looks_clsIn X hc).andThen .now
 have L3:PySem.W.Looks (model prog w) s.heap (Builtin.ObjectAttr.storeTaker? attr) none:=by
  cases attr with
  |none=>cases hr;exact .now
  |some a =>
   obtain⟨b,hb,e⟩:=Option.map_eq_some_iff.mp hr
   refine(PySem.W.looks_takesIn X hb).andThen ?_
   cases b with
   |false=>exact .now
   |true=>cases e
 rw[PySem.W.osa_eq,refuse_eq]
 refine wpAny_bind (wpAny_bind (I.type.here (wpAny_bind (hm.here ?_))))
 rw[zE _ ho]
 refine wpAny_pure (wpAny_bind (I.type.here (wpAny_bind ((PySem.W.looks_findIn X ha).here (wpAny_bind (L3.here ?_))))))
 exact h _
theorem Ea{vs:Array Value}{sl:Array (Option Value)}{mA:Str->Option Value}{ns:List Str}{Q:Unit->Shared->Prop}(X:K.In s.heap)(S:Tv K C)(ht:PySem.W.takerIn K C name=some none)
  (he:s.heap.get? x=some ⟨.ref C,some dx,.fields vs,sl⟩) (hn:s.heap.Ns1 dx mA) (hw:PySem.Within mA ns) (hsz:ns.length+1<=sizeLine)
  (h:∀h',h'.Ns1 dx (λy=>if y=name then some v else mA y)->Heap.SameBut dx s.heap h'->Q () { s with heap:=h',toks:=s.toks+2 }):wpAny (model prog w) A (setAttr (.ref x) name v) Q E s:=by
 obtain⟨od,ho,hl⟩:=uG hn
 have J:PySem.W.InstAt s.heap x ⟨.ref C,some dx,.fields vs,sl⟩ C (some od):=⟨he,rfl,rfl,ho⟩
 refine PySem.W.set_plain X J S.sa (F1 (s:={ s with toks:=s.toks+1 }) X J S ht λb=>?_)
 obtain⟨cd,hc,hd'⟩:=PySem.W.any_some S.hd
 refine wpAny_bind (wpAny_pure (wpAny_bind (wpAny_bind (wpAny_loadPart he (wpAny_bind (PySem.W.Looks.here (s:={ s with toks:=s.toks+1 }) (PySem.W.looks_clsIn X hc) ?_))))))
 rw[hd']
 refine wpAny_pure (a:=some dx) (wpAny_bind (wpAny_pure (wpAny_bind ?_)))
 refine wpAny_nsSet1 (s:={ s with toks:=s.toks+1 }) hn λh' hn2 hs2=>?_
 obtain⟨oD,esD,epD,SO,S3,S4⟩:=hn2.count (PySem.Within.cons name v hw)
 refine wpAny_bind (wpAny_lookBehind SO (by rw[S3];exact pastItsLine_dict (Nat.le_trans S4 (by rw[List.length_cons];omega))) ?_)
 exact wpAny_pure (h _ hn2 hs2)
theorem Eb{vs:Array Value}{sl:Array (Option Value)}{Q:Unit->Shared->Prop}(X:K.In s.heap)(S:Tv K C)(ht:PySem.W.takerIn K C name=some none)
  (he:s.heap.get? x=some ⟨.ref C,none,.fields vs,sl⟩)
  (h:∀h',h'.Ns1 s.heap.objs.size (λy=>if y=name then some v else none)->Heap.SameBut s.heap.objs.size ((s.heap.push PySem.W.emptyDict).update x λo=>{ o with dict:=some s.heap.objs.size }) h'->Q () { s with heap:=h',toks:=s.toks+2 }):wpAny (model prog w) A (setAttr (.ref x) name v) Q E s:=by
 have J:PySem.W.InstAt s.heap x ⟨.ref C,none,.fields vs,sl⟩ C none:=⟨he,rfl,rfl,trivial⟩
 refine PySem.W.set_plain X J S.sa (F1 (s:={ s with toks:=s.toks+1 }) X J S ht λb=>?_)
 obtain⟨cd,hc,hd'⟩:=PySem.W.any_some S.hd
 refine wpAny_bind (wpAny_pure (wpAny_bind (wpAny_bind (wpAny_loadPart he (wpAny_bind (PySem.W.Looks.here (s:={ s with toks:=s.toks+1 }) (PySem.W.looks_clsIn X hc) ?_))))))
 rw[hd']
 rw[if_neg (by decide)]
 have hxs:x≠s.heap.objs.size:=Nat.ne_of_lt (Heap.lt_size he)
 have SA:(s.heap.push PySem.W.emptyDict).get? x=some ⟨.ref C,none,.fields vs,sl⟩:=Heap.get?_push_of_some _ he
 show wpAny (model prog w) A.in1 (alloc PySem.W.emptyDict >>= λd=>update x (λo=>{ o with dict:=some d }) >>= λ_=>dictMade (.ref C) x d) _ _ _
 refine wpAny_bind (wpAny_alloc (wpAny_bind (wpAny_update SA ?_)))
 refine wpAny_pure ?_
 have hgd:((s.heap.push PySem.W.emptyDict).update x λo=>{ o with dict:=some s.heap.objs.size }).get? s.heap.objs.size=some PySem.W.emptyDict :=
  (Heap.get?_update_ne _ _ _ _ hxs.symm).trans (Heap.get?_push_size _ rfl)
 have hnd:((s.heap.push PySem.W.emptyDict).update x λo=>{ o with dict:=some s.heap.objs.size }).Ns s.heap.objs.size (λ_=>none) :=
  ⟨_,#[],_,hgd,rfl,λe he=>absurd he (by simp),λ_=>rfl⟩
 show wpAny _ _ (Builtin.ObjectAttr.storeInDict s.heap.objs.size (.str name s.toks) name v) _ _ _
 refine wpAny_bind (wpAny_pure (wpAny_bind ?_))
 refine wpAny_nsSet1 (s:={ s with heap:=(s.heap.push PySem.W.emptyDict).update x λo=>{ o with dict:=some s.heap.objs.size },toks:=s.toks+1 }) (Heap.Ns1.of_empty hnd) λh' hn2 hs2=>?_
 obtain⟨oD,esD,epD,SO,S3,S4⟩:=hn2.count (PySem.Within.cons name v PySem.Within.nil)
 refine wpAny_bind (wpAny_lookBehind SO (by rw[S3];exact pastItsLine_dict (Nat.le_trans S4 (by rw[List.length_cons,List.length_nil,sizeLine_eq];omega))) ?_)
 exact wpAny_pure (h _ hn2 hs2)
end
end L2
namespace L2
open PySem PySem.Spec PyProof.Rows
theorem Cu{fs:List (Str×V)}{mA:Str->Option Value}{f:Str}{y:V}{u:Value}(r:∀g,nh (fs.lookup g) (mA g))(ry:RelV y u):∀g,nh ((aF f y fs).lookup g) (if g=f then some u else mA g):=λg=>by
 rw[av]
 by_cases q:g=f
 ·rw[if_pos q,if_pos q];exact ry
 ·rw[if_neg q,if_neg q];exact r g
theorem wz{fs:List (Str×V)}{mA:Str->Option Value}{f:Str}{y:V}{u:Value}(wi:PySem.Within mA (fs.map (·.1))):PySem.Within (λg=>if g=f then some u else mA g) ((aF f y fs).map (·.1)):=λg hg=>by
 by_cases q:g=f
 ·rw[q];exact(oF f y fs).1
 ·refine(oF f y fs).2 g (wi g λz=>hg ?_)
  show(if g=f then some u else mA g)=none
  rw[if_neg q];exact z
def RA(K:PySem.W.Frag)(ta tv:TE)(f:Str):TS:=λD σ H=>tv σ H λy H1=>ta σ H1 λx H2=>∃e C,x= .ref e/\Tv K C/\bN K C f ∧
 ((H2 e=some (newX e C none)/\∀dx,H2 dx=none->D.nx σ (upd (upd (upd H2 dx (zm dx [])) e (newX e C (some dx))) dx (zm dx (aF f y [])))) ∨
  ∃dx fs,H2 e=some (newX e C (some dx))/\H2 dx=some (zm dx fs)/\fs.length<1000/\D.nx σ (upd H2 dx (zm dx (aF f y fs))))
theorem FQ{X:Cx}{o value:Expr}{f:Str}{pos pos':Pos}{ta tv:TE}(ha:PE X o ta)(hv:PE X value tv)(hs:swapsWith value (some (.Attribute o f pos')) pos.line X.env=pure false):PS X (.Assign [.Attribute o f pos'] value pos) (RA X.K ta tv f):=by
 intro pins s σ H D I h
 refine plainObj_wpAny_Assign_Attribute (fh (hv pins s σ H _ I h) λu s1 ⟨y,H1,I1,ry,q⟩=>fh (ha pins s1 σ H1 _ I1 q) λov s2 ⟨x,H2,I2,rx,e,C,ex,S,n,hk⟩=>?_) hs
 subst ex
 obtain rfl:ov=Value.ref e:=rx
 rcases hk with⟨hx,q2⟩|⟨dx,fs,hx,hd,hl,q2⟩
 ·obtain⟨⟨vs,sl,he,h1⟩,_,_⟩:=(show bQ X.prog X.w H2 s2.heap e (newX e C none) from I2.hok e _ hx)
  refine Eb I2.pI S n.Iu he λh' hn' sb=>?_
  have ne:e≠s2.heap.objs.size:=Nat.ne_of_lt (Heap.lt_size he)
  have e1:(s2.heap.push PySem.W.emptyDict).get? s2.heap.objs.size=some PySem.W.emptyDict:=Heap.get?_push_size _ rfl
  have n1:(s2.heap.push PySem.W.emptyDict).Ns1 s2.heap.objs.size (λ_=>none):=Heap.Ns1.of_empty ⟨_,#[],_,e1,rfl,(λe he=>absurd he (by simp)),λ_=>rfl⟩
  have UB:(s2.heap.push PySem.W.emptyDict).get? e=some ⟨.ref C,none,.fields vs,sl⟩:=Heap.get?_push_of_some _ he
  have ZR:=Heap.get?_update_self (λo=>{ o with dict:=some s2.heap.objs.size }) UB rfl
  have J1:=I2.laid (a:=s2.heap.objs.size) (o:=zm s2.heap.objs.size []) (h':=s2.heap.push PySem.W.emptyDict) (t':=s2.toks) (λb u q=>Heap.get?_push_of_some _ q) (Nat.le_refl _) (D0 n1 (λ_=>True.intro) (λy hy=>absurd rfl hy))
  have J2:=J1.write (x:=e) (e:=e) (o:=newX e C (some s2.heap.objs.size)) (t':=s2.toks) (by rw[ao ne,hx];exact True.intro) (.inl rfl) (λb u hb q=>(Heap.get?_update_other _ _ (Ne.symm hb)).trans q) ⟨_,ZR⟩ (AX ZR h1)
  have J3:=J2.write (x:=s2.heap.objs.size) (e:=s2.heap.objs.size) (o:=zm s2.heap.objs.size (aF f y [])) (h':=h') (t':=s2.toks+2) (by rw[ao (Ne.symm ne),ah];exact True.intro) (.inl rfl) (λb u hb q=>(sb.2 b hb).trans q) (let ⟨o,_,_,e,_⟩:=hn';⟨o,e⟩)
   (D0 hn' (Cu (mA:=λ_=>none) (λ_=>True.intro) ry) (wz (mA:=λ_=>none) λy hy=>absurd rfl hy)) (ht:=by show s2.toks<=s2.toks+2;omega)
  exact⟨σ,_,J3,q2 _ (I2.hok.fresh (Nat.le_refl _))⟩
 ·obtain⟨⟨vs,sl,he,h1⟩,_,_⟩:=(show bQ X.prog X.w H2 s2.heap e (newX e C (some dx)) from I2.hok e _ hx)
  obtain⟨⟨mA,nA,rA,wA⟩,_,_⟩:=(show bQ X.prog X.w H2 s2.heap dx (zm dx fs) from I2.hok dx _ hd)
  refine Ea I2.pI S n.Iu he nA wA (by rw[List.length_map,sizeLine_eq];omega) λh' hn' sb=>?_
  have J3:=I2.write (x:=dx) (e:=dx) (o:=zm dx (aF f y fs)) (h':=h') (t':=s2.toks+2) (by rw[hd];exact True.intro) (.inl rfl) (λb u hb q=>(sb.2 b hb).trans q) (let ⟨o,_,_,e,_⟩:=hn';⟨o,e⟩) (D0 hn' (Cu rA ry) (wz wA))
  exact⟨σ,_,J3,q2⟩
structure YM(K:PySem.W.Frag)(C f:Addr):Prop where
 cls:Gx K C f
 fn:PySem.W.isFn K (.ref f)=true
 kp:PySem.W.keepIn K (.ref C)=true
def Lg(C:Addr)(sp:Sp)(E:St->XK)(t:TA):TS:=λ_ σ H=>t σ H λvs H1=>vs.length<=sizeLine/\∀e,H1 e=none →
 sp (.ref e::vs) (upd H1 e (newX e C none)) (λv H2=>v= .iz/\∃od,H2 e=some (newX e C od)/\E σ (.ref C) od (del H2 e)) (E σ)
theorem GS{X:Cx}{E:St->XK}{C f:Addr}{x:Str}{np cpos pos:Pos}{k:Nat}{fd:FuncData}{ps:List Str}{sp:Sp}{e:Expr}{es:List Expr}{t:TA}(L:Lets X E)(M:YM X.K C f)
  (F:aI X.prog X.w X.K X.mg X.base (vz X.prog X.w) k f fd ps sp) (hr:jO (k+1) X.A) (hb:Binds X.K fd ps []) (hc:X.calm=true)
  (hg:Gl X x) (hm:X.mg x=some (.ref C)) (ha:PA X (e::es) t) (hdb:(x==("__debug__" :Str))=false:=by decide) (he:starEach (e::es) X.env=(false,eval e X.env)::starEach es X.env:=by rfl)
  (hpl:(backTo cpos (starEach es X.env)).any (·.1)=false:=by rfl):PS X (.Raise (some (.Call (.Name x np) (e::es) [] cpos)) none pos) (Lg C sp E t):=by
 intro pins s σ H D I h
 obtain⟨d,hC,hN,hni,T⟩:=M.cls.obj X.base I.ok.mod.MW
 rw[arm_exec_Raise]
 have FB:=PySem.F.excBase_ValueError
 simp only[evalOpt,Option.map]
 refine wpAny_bind (wpAny_standAt (Em (C:=C) (nm:=d.nm) (q:=d.q) (N:=d.N) (bs:=d.bs) (bm:=d.bm) (hdct:=d.hdct) (sn:=d.sn) (sub:=d.sub) (ab:=d.ab) (col:=d.col) (dd:=d.dd) (k0:=d.k0) (k1:=d.k1) (k2:=d.k2) (k3:=d.k3) (k5:=d.k5) (newId:= "ValueError.__new__") (T.hasType FB.hasBase) (I.ok.hd hc) ?_))
 refine wpAny_bind (fh (Q:=λv s₁=>∃e od vs sl,v= .ref e/\s₁.heap.get? C=some (d.obj C "ValueError.__new__")/\s₁.heap.get? e=some ⟨.ref C,od,.fields vs,sl⟩/\vs[1]? =some .none/\X.xe (.ref e) s₁) ?_ λv s2 h2=>wpAny_bind (wpAny_standAt (wpAny_pure h2)))
 refine wpAny_Call_Name_kw (nP I hg hm ?_ hdb)
 refine PySem.W.callWith_K (h₀:=X.base) I.ok.mod.MW M.kp (fh (ha cpos pins s σ H _ I h) λus s1 ⟨vs,H1,I1,r,hl,q1⟩=>⟨I1.pI,?_⟩) he hpl
 have hfo:∃o,s1.heap.get? f=some o/\o.cls= .type "function" :=by
  obtain⟨o,ho,hc⟩:=Option.map_eq_some_iff.mp (beq_iff_eq.mp M.fn)
  exact⟨o,I1.pI _ _ ho,hc⟩
 obtain⟨oI,hfo,hfc⟩:=hfo
 have I1':=I1
 obtain⟨hh,gs,dr,tk,os⟩:=s1
 refine HC (N:=d.N) (mN:=d.mN) FB FB.hasB FB (T.keeps I1.bk) (I1.bk _ _ hC) (hN.keeps I1.bk) hni hfo hfc (λh' ea made=>?_) (by show us.length<=sizeLine;rw[←r.length];exact hl)
 obtain⟨t',ht,_,_⟩:=made.there
 have xo:=I1.Uc made.new (I1.hok.none_of made.new)
 have J0:Inv X pins σ H1 ⟨h',gs,dr,tk,os⟩:=I1.kept (t':=tk) made.keeps
 have J1:Inv X pins σ (upd H1 ea (newX ea C none)) ⟨h',gs,dr,tk,os⟩:=J0.Ir xo (AX ht ⟨rfl,rfl,by simp⟩)
 have hq:=q1 ea xo.1
 have r2:Vals (V.ref ea::vs) (Value.ref ea::us):=.cons rfl r
 have hlen:(Value.ref ea::us).length=ps.length:=by rw[←r2.length];exact F.len _ _ _ _ hq
 refine wpAny_call (codeAny_mono (F.run _ X.stack _ _ ⟨Value.ref ea::us,[]⟩ (Value.ref ea::us) _ _ (E σ) (hr.make C us []) (J1.Mp.make C us []) (by have z:=hb _ (Value.ref ea::us) J1.pI (by rw[List.append_nil];exact hlen);rw[List.append_nil]at z;exact z) r2 hq) λrr s' hq'=>?_)
 cases rr with
 |error e=>exact L.pass J1 hq'
 |ok fl =>
  cases fl with
  |ret u =>
   obtain⟨v,H',I3,rv,ev,od,hx,qE⟩:=J1.after hq'
   subst ev
   obtain⟨⟨vs',HU,he',pL⟩,_,_⟩:=(show bQ X.prog X.w H' s'.heap ea (newX ea C od) from I3.hok ea _ hx)
   refine⟨rv,ea,od,vs',HU,rfl,I3.bk _ _ hC,he',pL.1,?_⟩
   exact L pins σ (del H' ea) s' ea (.ref C) od (I3.drop hx) ⟨⟨Ds,xo.2⟩,vs',HU,he',λ_=>pL.2.1,.inl pL.1⟩ qE
  |next=>exact False.elim hq'
  |brk=>exact False.elim hq'
  |cont=>exact False.elim hq'
end L2
namespace L2
open PySem PySem.Spec PyProof.Rows
section
variable{X:Cx}{a b c:Expr}{ta tb tc:TE}{pos:Pos}{rest:List Expr}
end
end L2
namespace L2
open PySem PySem.Spec PyProof.Rows
def Iv(wi:TI)(g:TG)(tt:TT)(te:TE)(om:St->St):TE:=λσ H Q=>wi σ H λJ H1=>∀l,H1 l=none->∃W:Nat->Nat->List V->Hp->Prop,(∃m,W 0 m [] (upd H1 l (.lst []))) ∧
 ∀i m ys H2,W i m ys H2->(J.stop i H2/\Q (.ref l) H2) ∨
  (J.go i H2/\∀x H3,J.Ad i H2 x H3->g x (om σ) H3 λud H4=>Kp (om σ) ud/\tt ud H4 λb H5 =>
   if b=true then te ud H5 (λy H6=>H6 l=some (.lst ys)/\ys.length<sizeLine/\∃m',m'<m/\W (i+1) m' (ys++[y]) (upd H6 l (.lst (ys++[y]))))else ∃m',m'<m/\W (i+1) m' ys H5)
theorem Ss{A B:Prop}(h:if false=true then A else B):B:=by rw[if_neg Bool.false_ne_true]at h;exact h
theorem Sq{A B:Prop}(h:if true=true then A else B):A:=by rw[if_pos rfl]at h;exact h
set_option maxHeartbeats 2000000 in
theorem E3{X:Cx}{elt tg iter test:Expr}{tt:TT}{scope:Scope}{pos pos':Pos}{wi:TI}{g:TG}{te:TE}{N:List Str}{om:St->St}(hc:X.calm=true)(hS:X.Ok->∃cl,cG X scope cl N om)(hi:PI X tg iter wi)
  (hg:∀cl C s H ex pn E,PG (ju X scope cl C N s H ex pn E) tg g) (he:∀cl C s H ex pn E,PE (ju X scope cl C N s H ex pn E) elt te) (ht:∀cl C s H ex pn E,PT (ju X scope cl C N s H ex pn E) test tt) (hs:∀x,foldedSetIterable iter X.env x=pure x)
  {pins:List (Addr×Obj)} {s:Shared} {σ:St} {H:Hp} {Q:VK} {use:Option (Value->Sem Unit)} {QQ:Value->Shared->Prop} (I:Inv X pins σ H s) (h:Iv wi g tt te om σ H Q)
  (Qd:∀(l C:Addr) (mC:Str->Option Value) (H':Hp) (s':Shared),Inv X pins σ H' s'->pK X pins H' C->s'.heap.Ns C mC->Q (.ref l) H'->compPost (model X.prog X.w) X.A X.xe use QQ (.ref l) C (.ok .next) s') :
  wpAny (model X.prog X.w) X.A (comprehension (.ListComp elt [⟨tg,iter,[test],0⟩] scope pos) scope X.env pos' (newList []) false (eval iter X.env) use) QQ X.xe s:=by
 obtain⟨cl,S⟩:=hS I.ok
 refine wpAny_comprehension_free (use:=use) rfl hs S.clos S.kind S.names (fh (hi pins s σ H _ I h) λv s1 h1=>fh h1 λitv s2 h2=>?_)
 obtain⟨it,fp,tn,J,H2,e,I2,T,st2,f2,hq⟩:=h2
 subst e
 obtain⟨W,⟨m0,w0⟩,turn⟩:=hq _ I2.fresh
 refine wpAny_newObj_type (Dv S λBj h₁ G EN kp=>?_)
 have I3:Inv X pins σ (upd H2 s2.heap.objs.size (.lst [])) { s2 with heap:=s2.heap.push { cls:=.type "list",data:=.seq ([]:List Value).toArray } }:=I2.Po (t':=s2.toks) .nil (Nat.zero_le _)
 have CH:∀b o,s2.heap.get? b=some o->(s2.heap.push { cls:=.type "list",data:=.seq ([]:List Value).toArray }).get? b=some o:=λb o e=>Heap.get?_push_of_some _ e
 have f3:∀b∈fp,pK X pins (upd H2 s2.heap.objs.size (.lst [])) b/\b<(s2.heap.push { cls:=.type "list",data:=.seq ([]:List Value).toArray }).objs.size:=λb hb=>by
  obtain⟨o,ho,_⟩:=T.obj _ _ st2 b hb
  have hlt:=Heap.lt_size ho
  obtain⟨f0,f1⟩:=f2 b hb
  exact⟨⟨by rw[ao (Nat.ne_of_lt hlt)];exact f0,f1⟩,Heap.lt_size (CH b o ho)⟩
 have st3:tn 0 h₁:=T.keep _ _ _ st2 λb _ o e=>kp b o (CH b o e)
 generalize hR:(λr s'=>compPost (model X.prog X.w) X.A X.xe use QQ (.ref s2.heap.objs.size) (s2.heap.push { cls:=.type "list",data:=.seq ([]:List Value).toArray }).objs.size r s')=R
 generalize qS:ju X scope Bj (s2.heap.push { cls:=.type "list",data:=.seq ([]:List Value).toArray }).objs.size N { s2 with heap:=s2.heap.push { cls:=.type "list",data:=.seq ([]:List Value).toArray } }
  (upd H2 s2.heap.objs.size (.lst [])) fp (X.pn++pins) (notedBy (model X.prog X.w) X.A (compEnvC scope Bj (s2.heap.push { cls:=.type "list",data:=.seq ([]:List Value).toArray }).objs.size X.env) λe s'=>R (.error e) s')=X'
 have I4:Inv X' [] (om σ) (upd H2 s2.heap.objs.size (.lst [])) { s2 with heap:=h₁ }:=by
  subst qS
  exact C9 (s:={ s2 with heap:=s2.heap.push { cls:=.type "list",data:=.seq ([]:List Value).toArray } }) S G I3 f3 kp EN s2.toks
 have YQ:PG X' tg g:=by subst qS;exact hg _ _ _ _ _ _ _
 have YR:PE X' elt te:=by subst qS;exact he _ _ _ _ _ _ _
 have PT':PT X' test tt:=by subst qS;exact ht _ _ _ _ _ _ _
 have stat:∀{H':Hp},(∀b∈fp,H' b=none)->∀b∈fp,pK X' [] H' b:=λhn b hb=>by
  subst qS
  obtain⟨⟨_,f1,fn,_,f4,f5⟩,lt⟩:=f3 b hb
  refine⟨hn b hb,Nat.ne_of_lt lt,λz=>?_,.inl hb,λx c e=>(G.look x c e).elim (λz=>Nat.ne_of_gt (Nat.lt_trans lt z.1)) λz=>f4 x c (S.sub x c z),λp hp=>f5 p ?_⟩
  ·rcases List.mem_cons.mp (I3.rH b z)with q|q
   ·exact f1 q
   ·exact fn q
  ·rcases List.mem_append.mp hp with z|z
   ·exact z
   ·cases z
 have hp1:X'.prog=X.prog:=by subst qS;rfl
 have hp2:X'.w=X.w:=by subst qS;rfl
 have hp3:X'.K=X.K:=by subst qS;rfl
 have SK:X'.calm=true:=by subst qS;exact hc
 have HX:X'.A=X.A:=by subst qS;rfl
 have P1:X'.env=compEnvC scope Bj (s2.heap.push { cls:=.type "list",data:=.seq ([]:List Value).toArray }).objs.size X.env:=by subst qS;rfl
 have M5:X'.xe=notedBy (model X.prog X.w) X.A X'.env λe s'=>R (.error e) s':=by subst qS;rfl
 have fin:∀{H':Hp} {s':Shared},Inv X' [] (om σ) H' s'->Q (.ref s2.heap.objs.size) H'->R (.ok .next) s':=by
  intro H' s' I5 q
  subst hR
  obtain⟨mC,SR,_⟩:=I5.loc
  rw[P1]at SR
  have hok:mO X.prog X.w H' s'.heap:=by
   have z:=I5.hok
   rw[hp1,hp2]at z
   exact z
  have u:Un (frs X.stack) fp (upd H2 s2.heap.objs.size (.lst [])) H' (s2.heap.push { cls:=.type "list",data:=.seq ([]:List Value).toArray }) s'.heap:=by
   have z:=I5.base
   subst qS
   exact z
  have hC:H' (s2.heap.push { cls:=.type "list",data:=.seq ([]:List Value).toArray }).objs.size=none:=by
   have zf:=I5.free
   rw[P1]at zf
   exact zf
  refine Qd _ _ mC H' s' (I3.Ku (ch:=fp) (s':=s') (by have z:=I5.os;subst qS;exact z) u hok I5.bare (λb hb=>?_) (by have z:=I5.up;subst qS;exact Nat.le_trans I3.up z)) (I3.vQ (Nat.le_refl _) hC) SR q
  obtain⟨⟨_,f1,_,YA,f4,f5⟩,_⟩:=f3 b hb
  exact⟨YA,f1,f4,f5⟩
 have loop:∀s3:Shared,Inv X' [] (om σ) (upd H2 s2.heap.objs.size (.lst [])) s3->tn 0 s3.heap →
   codeAny (model X.prog X.w) X.A (.compLoop (.ListComp elt [⟨tg,iter,[test],0⟩] scope pos) 0 (.ref it) (.ref s2.heap.objs.size) X'.env) R s3:=by
  intro s3 J3 t3
  refine codeAny_loop rfl (λn s'=>∃i ys H',Inv X' [] (om σ) H' s'/\tn i s'.heap/\(∀b∈fp,H' b=none)/\W i n ys H') ?_ m0 ⟨0,[],_,J3,t3,λb hb=>(f3 b hb).1.1,w0⟩
  rintro n s4 ⟨i,ys,H4,J4,t4,n4,w4⟩
  show wpAny _ _ ((compTurn (.ListComp elt [⟨tg,iter,[test],0⟩] scope pos) 0 (.ref it) (.ref s2.heap.objs.size) X'.env).onRaise (λx=>do noteFrame x X'.env;theTreesLotGoes x)) _ _ s4
  refine wpAny_noted ?_
  rw[compTurn_list]
  refine wpAny_bind (wpAny_standAt (wpAny_bind ?_))
  rcases turn i n ys H4 w4 with⟨stop,q⟩|⟨go,step⟩
  ·have z:=T.done X' hp1 hp2 hp3 SK i [] s4 (om σ) H4 (notedBy (model X.prog X.w) X.A X'.env λe s'=>R (.error e) s') J4 (stat n4) t4 stop
   rw[HX]at z
   refine wpAny_mono z (λr s5 ⟨hr,J5⟩=>?_) λ_ _ x=>x
   subst hr
   exact wpAny_pure (fin J5 q)
  ·have z:=T.item X' hp1 hp2 hp3 SK i [] s4 (om σ) H4 (notedBy (model X.prog X.w) X.A X'.env λe s'=>R (.error e) s') J4 (stat n4) t4 go
   rw[HX]at z
   refine wpAny_mono z (λr s5 ⟨u,hr,h5⟩=>?_) λ_ _ x=>x
   subst hr
   refine wpAny_bind (wpAny_mono h5 (λ_ s6 ⟨x,H6,J6,r6,y6,t6,n6⟩=>?_) λ_ _ x=>x)
   have YT:=J6.pinned (stat n6) (T.obj _ _ t6)
   have zg:=YQ _ s6 (om σ) H6 x u _ YT r6 (step x H6 y6)
   rw[hp1,hp2,HX,M5]at zg
   refine wpAny_bind (wpAny_mono zg (λ_ s7 ⟨BQ,H7,J7,k7,q7⟩=>?_) λ_ _ x=>x)
   have zt:=PT' _ s7 BQ H7 _ J7 q7
   rw[hp1,hp2,HX,M5]at zt
   refine wpAny_bind (wpAny_mono (wpAny_tests_one zt) (λok s7b h7b=>?_) λ_ _ x=>x)
   obtain⟨H7b,TQ,Za⟩:=h7b
   cases ok with
   |false =>
    obtain⟨m',hm,w8⟩:=Ss Za
    refine wpAny_pure ⟨rfl,m',hm,i+1,ys,_,?_,?_,?_,w8⟩
    ·refine TQ.Il.weak ?_ ?_
     ·rw[S.len,TQ.len]
      subst qS
      rfl
     ·exact k7
    ·exact T.keep _ _ _ t6 λb hb o e=>(TQ.pin (b,o) (List.mem_append_right _ (List.mem_append_right _ (iI hb e)))).1
    ·intro b hb
     obtain⟨o,e,d⟩:=T.obj _ _ t6 b hb
     exact(TQ.pin (b,o) (List.mem_append_right _ (List.mem_append_right _ (iI hb e)))).2.1
   |true =>
    have ze:=YR _ s7b BQ H7b _ TQ (Sq Za)
    rw[hp1,hp2,HX,M5]at ze
    refine wpAny_bind (wpAny_bind (wpAny_mono ze (λyv s8 h8=>?_) λ_ _ x=>x))
    obtain⟨y,H8,J8,r8,e8,z8,m',hm,w8⟩:=h8
    have za:=fu (X:=X') _ s8 BQ H8 (.ref s2.heap.objs.size) [y] (.ref s2.heap.objs.size) [yv] (λ_ H9=>H9=upd H8 s2.heap.objs.size (.lst (ys++[y]))) J8 rfl (.cons r8 .nil) ⟨_,ys,y,rfl,rfl,e8,z8,rfl⟩
    rw[hp1,hp2,HX,M5]at za
    refine wpAny_bind (wpAny_mono za (λ_ s9 h9=>?_) λ_ _ x=>x)
    obtain⟨_,H9,J9,_,e9⟩:=h9
    subst e9
    refine wpAny_pure (wpAny_pure ⟨rfl,m',hm,i+1,ys++[y],_,?_,?_,?_,w8⟩)
    ·refine J9.Il.weak ?_ ?_
     ·rw[S.len,J9.len]
      subst qS
      rfl
     ·exact k7
    ·exact T.keep _ _ _ t6 λb hb o e=>(J9.pin (b,o) (List.mem_append_right _ (List.mem_append_right _ (iI hb e)))).1
    ·intro b hb
     obtain⟨o,e,d⟩:=T.obj _ _ t6 b hb
     exact(J9.pin (b,o) (List.mem_append_right _ (List.mem_append_right _ (iI hb e)))).2.1
 have l0:=loop _ I4 st3
 have l1:=codeAny_compStart_list l0 (T.self X.A 0 _ _ _ st3 l0)
 rw[P1]at l1
 subst hR
 exact l1
theorem oE{X:Cx}{elt tg iter test:Expr}{tt:TT}{scope:Scope}{pos:Pos}{wi:TI}{g:TG}{te:TE}{N:List Str}{om:St->St}(hc:X.calm=true)(hS:X.Ok->∃cl,cG X scope cl N om)(hi:PI X tg iter wi)
  (hg:∀cl C s H ex pn E,PG (ju X scope cl C N s H ex pn E) tg g) (he:∀cl C s H ex pn E,PE (ju X scope cl C N s H ex pn E) elt te) (ht:∀cl C s H ex pn E,PT (ju X scope cl C N s H ex pn E) test tt)
  (hs:∀x,foldedSetIterable iter X.env x=pure x:=by intro _;rfl):PE X (.ListComp elt [⟨tg,iter,[test],0⟩] scope pos) (Iv wi g tt te om):=by
 intro pins s σ H Q I h
 rw[eval_ListComp]
 refine E3 (use:=none) (QQ:=EP X pins σ Q) hc hS hi hg he ht hs I h ?_
 intro l C mC H' s' I' fp hn q
 exact⟨mC,hn,λh' sb=>⟨.ref l,H',I'.moved (ch:=[C]) (t':=s'.toks) (λb o hb e=>(sb.2 b (by simpa using hb)).trans e) (λb hb=>by rw[List.mem_singleton.mp hb];exact fp),rfl,q⟩⟩
end L2
namespace GP
open PySem L2 sy
theorem zI{n:Nat}(h:n<=100000):((n:Nat):Int).natAbs.log2<1920:=by
 rw[Int.natAbs_natCast]
 by_cases z:n=0
 ·subst z;decide
 ·rw[Nat.log2_lt z]
  exact Nat.lt_of_le_of_lt h (Nat.lt_of_lt_of_le (show 100000<2 ^ 20 by decide) (Nat.pow_le_pow_right (by decide) (by decide)))
theorem Bb{a b:Str}{m n:Nat}(h1:a.length<=m)(h2:b.length<=n):(a++b).length<=m+n:=by rw[strLen_append];omega
theorem qm{i j:Int}:decide (V.int i=V.int j)=decide (i=j):=by
 by_cases h:i=j
 ·subst h;simp
 ·rw[decide_eq_false h,decide_eq_false (λz=>h (V.int.inj z))]
theorem ite_str{i j:Str}{A B:Prop}(h1:i=j->A)(h2:¬i=j->B):if(decide (V.str i=V.str j))=true then A else B:=by
 by_cases h:i=j
 ·rw[if_pos (by rw[h];simp)];exact h1 h
 ·rw[if_neg (by rw[decide_eq_false (λz=>h (V.str.inj z))];exact Bool.false_ne_true)];exact h2 h
def Ci(C:Addr):Sp:=λvs H Q _=>∃(e:Addr) (i j:Nat),vs=[.ref e,.int i,.int j]/\H e=some (newX e C none)/\i<=100000/\j<=100000 ∧
 ∀dx H',(∀b u,H b=some u->b≠e->H' b=some u)->H dx=none->H' e=some (newX e C (some dx))->H' dx=some (zm dx (aF "place" (.int j) (aF "row" (.int i) [])))->Q .iz H'
def F7:List V:=[.str (Str.ofString "whole"),.str (Str.ofString "within"),.str (Str.ofString "over"),.str (Str.ofString "stretch")]
def jz(m:Str):Bool:=L4 (.str m) F7
def pP(C:Addr):Sp:=λvs H Q E=>∃m:Str,vs=[.str m]/\(jz m=true->Q .iz H)/\(jz m=false->(reprText m).length<=20/\E (.ref C) none H)
def vK(m:Str)(q:cJ):Bool :=
 if m=Str.ofString "whole" then decide (q.1=0)&&decide (q.2=0)else if m=Str.ofString "within" then decide (q.1=0)else if m=Str.ofString "over" then decide (q.2=0)else true
def AY(m f s:Str)(q:cJ):Bool :=
 if m=Str.ofString "whole" then decide (q.1=(f.cps.size:Int))&&decide (q.2=(s.cps.size:Int))else if m=Str.ofString "stretch" then true else decide (q.1=(f.cps.size:Int))
def IK(K:PySem.W.Frag):Sp:=λvs H Q _=>∃(m:Str) (a:Addr) (q:cJ),vs=[.str m,.ref a]/\kB K H a q/\Q (.bl (vK m q)) H
def IJ(K:PySem.W.Frag):Sp:=λvs H Q _=>∃(m f s:Str) (a:Addr) (q:cJ),vs=[.str m,.str f,.str s,.ref a]/\kB K H a q/\f.cps.size<=1000/\s.cps.size<=1000/\Q (.bl (AY m f s q)) H
theorem yL {m:Str} (h:jz m=true) (h1:¬m=Str.ofString "whole") (h2:¬m=Str.ofString "within") (h3:¬m=Str.ofString "over"):m=Str.ofString "stretch" :=by
 unfold jz F7 L4 at h
 simp only[List.any_cons,List.any_nil,Bool.or_false,Bool.or_eq_true,Mm]at h
 rcases h with h|h|h|h
 ·exact absurd (show Str.ofString "whole" =m by simpa using h).symm h1
 ·exact absurd (show Str.ofString "within" =m by simpa using h).symm h2
 ·exact absurd (show Str.ofString "over" =m by simpa using h).symm h3
 ·exact(show Str.ofString "stretch" =m by simpa using h).symm
end GP
namespace L2
open PySem PySem.Spec PyProof.Rows
theorem Kc{prog:Program}{w:World}{A:Around}{E:Value->Shared->Prop}{s:Shared}{K:PySem.W.Frag}{x C:Addr}{ox:Obj}{od:Option Obj}{name:Str}{expr:Bool}{v:Value}{Q:Value->Shared->Prop}(Z:Nh K C)(k:K.In s.heap)(I:PySem.W.InstAt s.heap x ox C od)
  (hf:PySem.W.findObj K C od name=some (.value v)) (hd:PySem.W.handedIn v=true) (h:Q v { s with toks:=s.toks+1 }):wpAny (model prog w) A (getAttr (.ref x) name expr) Q E s:=by
 obtain⟨hh,g,d,t,os⟩:=s
 have L0:=I.type (M:=model prog w)
 have L1:=PySem.W.looks_findIn (M:=model prog w) k Z.ga
 have L2:=PySem.W.looks_findIn (M:=model prog w) k Z.gn
 have LB:=PySem.W.looks_mroIn (M:=model prog w) k Z.hb
 have LF:=PySem.W.looks_find (M:=model prog w) k I hf
 unfold getAttr getAttrBy
 refine wpAny_bind (wpAny_mkText (wpAny_holding (wpAny_bind (L0.at (wpAny_bind (L1.at ?_))))))
 show wpAny _ _ (getAttrByItsOwn _ _ _ _ _ _) _ _ _
 unfold getAttrByItsOwn hookBefore
 refine wpAny_bind (L2.at ?_)
 refine wpAny_bind (wpAny_attempt (wpAny_holding ?_))
 have e0:∀n:Value,callGetattribute (.ref x) n (.builtin "BaseException.__getattribute__") expr=boundAndCalled (.builtin "BaseException.__getattribute__") (.ref x) n:=λn=>by
  unfold callGetattribute
  cases expr<;>rfl
 rw[e0]
 unfold boundAndCalled
 refine wpAny_bind (wpAny_of_eq (PySem.F.attr_ValueError.ga.bind (.ref x)) ?_)
 show wpAny _ _ (call (.builtin "BaseException.__getattribute__") [.ref x,.str name t]) _ _ _
 refine wpAny_call (codeAny_call_builtin PySem.F.attr_ValueError.ga.plain PySem.F.entry_bexc_ga ?_)
 have c1:builtinKind "BaseException.__getattribute__" =some .slot:=by decide +kernel
 have c2:splitId "BaseException.__getattribute__" =some ("BaseException","__getattribute__"):=by decide +kernel
 have c3:=PySem.F.args_bexc_ga (.ref x) (.str name t)
 simp only[checkBuiltinCall,c1,c2]
 refine wpAny_bind (wpAny_bind (L0.at (LB.at ?_)))
 simp only[Bool.not_true,Bool.false_eq_true,if_false]
 unfold argsOk at c3
 refine wpAny_of_eq c3 ?_
 unfold Builtin.«object.__getattribute__»
 refine wpAny_bind (wpAny_pure (wpAny_bind (wpAny_pure (wpAny_bind (L0.at (wpAny_bind (LF.at ?_)))))))
 refine wpAny_pure ?_
 show wpAny _ _ (handedOut v) _ _ _
 rw[PySem.W.handedOut_of hd]
 exact wpAny_pure h
def MG(K:PySem.W.Frag)(ta:TE)(f:Str):TE:=λσ H Q=>ta σ H λx H1=>∃e C dx fs i,x= .ref e/\H1 e=some (K0 e (.ref C) (some dx))/\H1 dx=some (zm dx fs)/\Nh K C/\bN K C f/\fs.lookup f=some (.int i)/\Q (.int i) H1
theorem Dc{P:Program}{w:World}{H:Hp}{h:Heap}{e C dx:Addr}{fs:List (Str×V)}(hok:mO P w H h)(he:H e=some (K0 e (.ref C) (some dx)))(hd:H dx=some (zm dx fs)):
  ∃ox od,∃mA:Str->Option Value,PySem.W.InstAt h e ox C (some od)/\(∀name,PySem.W.lookIn name od=some (mA name))/\∀f,nh (fs.lookup f) (mA f):=by
 obtain⟨⟨vs,sl,h1⟩,_,_⟩:=(show bQ P w H h e (K0 e (.ref C) (some dx)) from hok e _ he)
 obtain⟨⟨mA,nA,rA,wA⟩,_,_⟩:=(show bQ P w H h dx (zm dx fs) from hok dx _ hd)
 obtain⟨od,ho,hl⟩:=uG nA
 exact⟨_,od,mA,⟨h1,rfl,rfl,ho⟩,hl,rA⟩
theorem Lv{X:Cx}{e:Expr}{f:Str}{pos:Pos}{ta:TE}(he:PE X e ta)(hb:attributeBase e f X.env (eval e X.env)=eval e X.env):PE X (.Attribute e f pos) (MG X.K ta f):=by
 intro pins s σ H Q I h
 refine Gu hb (fh (he pins s σ H _ I h) λu s1 ⟨x,H1,I1,rx,e,C,dx,fs,i,ex,hx,hd,Z,n,l,q⟩=>?_)
 subst ex
 obtain rfl:u=Value.ref e:=rx
 obtain⟨ox,od,mA,J,hl,rA⟩:=Dc I1.hok hx hd
 have r:=rA f
 rw[l]at r
 cases hm:mA f with
 |none=>rw[hm]at r;exact r.elim
 |some u =>
  rw[hm]at r
  obtain⟨t,rfl⟩:=(show ∃t,u=Value.int i t from r)
  refine Kc Z I1.pI J ?_ rfl ⟨.int i,H1,I1.tok _,⟨t,rfl⟩,q⟩
  obtain⟨cd,hc,UC⟩:=PySem.W.any_some Z.hd
  have hn:PySem.W.findIn X.K (.ref C) f=some none:=n
  unfold PySem.W.findObj
  rw[hc,Option.bind_some,hn,Option.bind_some]
  simp only[Option.bind_some,PySem.W.ownOf,UC,if_true,hl,hm]
theorem yR{X:Cx}:lP X (.builtin "isinstance") (λxs H Q=>∃ea C od c cv b,xs=[.ref ea,c]/\((∃D,c= .ref D/\cv= .ref D)\/∃T,c= .ty T/\cv= .type T)/\H ea=some (K0 ea (.ref C) od)/\(od=none\/∃dx fs,od=some dx/\H dx=some (zm dx fs))/\Nh X.K C/\PySem.W.kitOne X.K (.ref C) cv=some b/\Q (.bl b) H):=by
 intro pins s σ H vs us Q I r h
 obtain⟨ea,C,od,c,cv,b,rfl,hc,hx,hod,Z,hk,q⟩:=h
 obtain⟨u,u2,rfl,rx,rc⟩:=vals2 r
 cases (show u=Value.ref ea from rx)
 have e2:u2=cv:=by
  rcases hc with⟨D,rfl,rfl⟩|⟨T,rfl,rfl⟩
  ·exact rc
  ·exact rc
 subst e2
 rcases hod with rfl|⟨dx,fs,rfl,hd⟩
 ·obtain⟨⟨ws,sl,e⟩,_,_⟩:=(show bQ X.prog X.w H s.heap ea (K0 ea (.ref C) none) from I.hok ea _ hx)
  exact TK.bY (Nat.le_refl s.toks) (PySem.W.kia_one (C4 (ox:=⟨.ref C,none,.fields ws,sl⟩) (od:=none) Z) I.pI ⟨e,rfl,rfl,trivial⟩ hk (λz=>nomatch z) λtk hup=>⟨.bl b,H,I.tok tk,rfl,q⟩)
 ·obtain⟨ox,o,mA,J,hl,rA⟩:=Dc I.hok hx hd
  exact TK.bY (Nat.le_refl s.toks) (PySem.W.kia_one (C4 (ox:=ox) (od:=some o) Z) I.pI J hk (λz=>nomatch z) λtk hup=>⟨.bl b,H,I.tok tk,rfl,q⟩)
end L2
namespace GP
open PySem L2 sy
theorem Cn{x:Str}{lo hi:Option Int}{a b:Nat}(e:PySem.Builtin.Str.strSliceIndices lo hi 1 x.length=PySem.Builtin.Str.strSliceIndices (some (a:Int)) (some (b:Int)) 1 x.length)(hab:a<=b)(hb:b<=x.cps.size):(Txt.slice x lo hi).cps.toList=(x.cps.toList.drop a).take (b-a):=by
 have hb':b<=x.length:=hb
 have f:=StrLaws.sliced_plain x hab hb'
 unfold Txt.slice
 rw[e]
 split
 ·next h =>
  have hl:(PySem.Builtin.Str.strSliceIndices (some (a:Int)) (some (b:Int)) 1 x.length).length=x.length:=by simpa using h
  rw[StrLaws.strSliceIndices_plain hab hb',List.length_map,List.length_range]at hl
  have hl':b-a=x.cps.size:=hl
  have ha:a=0:=by omega
  subst ha
  rw[List.drop_zero,List.take_of_length_le (by rw[Array.length_toList];omega)]
 ·exact f
theorem Co{x:Str}{k:Int}(h0:0<=k)(h1:k<=(x.cps.size:Int)):(Txt.slice x none (some k)).cps.toList=x.cps.toList.take k.toNat:=by
 obtain⟨n,rfl⟩:∃n:Nat,k=(n:Int):=⟨k.toNat,(Int.toNat_of_nonneg h0).symm⟩
 have e:=Cn (x:=x) (lo:=none) (hi:=some (n:Int)) (a:=0) (b:=n) (by
  simp only[PySem.Builtin.Str.strSliceIndices]
  simp
  rw[show max (0:Int) (min 0 (x.length:Int))=0 by omega]) (Nat.zero_le _) (by omega)
 rw[e,List.drop_zero]
 rfl
theorem Cq{x:Str}{k:Int}(h0:0<=k)(h1:k<=(x.cps.size:Int)):(Txt.slice x (some k) none).cps.toList=x.cps.toList.drop k.toNat:=by
 obtain⟨n,rfl⟩:∃n:Nat,k=(n:Int):=⟨k.toNat,(Int.toNat_of_nonneg h0).symm⟩
 have e:=Cn (x:=x) (lo:=some (n:Int)) (hi:=none) (a:=n) (b:=x.cps.size) (by
  have hl:x.length=x.cps.size:=rfl
  simp only[PySem.Builtin.Str.strSliceIndices,hl]
  simp
  rw[if_neg (show ¬(x.cps.size:Int)<0 by omega),show max (0:Int) (min (x.cps.size:Int) (x.cps.size:Int))=(x.cps.size:Int) by omega]) (by omega) (Nat.le_refl _)
 rw[e,List.take_of_length_le (by rw[List.length_drop,Array.length_toList];omega)]
 rfl
def uc(sg a b:Str)(i j:Nat):Prop :=
 (i=0/\(∃c,a.cps[j]? =some c/\c∉sg.cps.toList)/\∀k c,k<j->a.cps[k]? =some c->c∈sg.cps.toList) ∨
 (i=1/\Of sg a/\(∃c,b.cps[j]? =some c/\c∉sg.cps.toList)/\∀k c,k<j->b.cps[k]? =some c->c∈sg.cps.toList)
theorem uc.no{sg a b:Str}{i j:Nat}(h:uc sg a b i j):¬(Of sg a/\Of sg b):=λo=>by
 rcases h with⟨_,⟨c,hc,hn⟩,_⟩|⟨_,_,⟨c,hc,hn⟩,_⟩
 ·exact hn (o.1 c (nR hc))
 ·exact hn (o.2 c (nR hc))
theorem xV{sg a:Str}{j j':Nat}(h:(∃c,a.cps[j]? =some c/\c∉sg.cps.toList)/\∀k c,k<j->a.cps[k]? =some c->c∈sg.cps.toList)
  (h':(∃c,a.cps[j']? =some c/\c∉sg.cps.toList)/\∀k c,k<j'->a.cps[k]? =some c->c∈sg.cps.toList):j=j':=by
 obtain⟨⟨c,hc,hn⟩,h2⟩:=h
 obtain⟨⟨d,hd,hm⟩,h3⟩:=h'
 rcases Nat.lt_trichotomy j j' with z|z|z
 ·exact absurd (h3 j c z hc) hn
 ·exact z
 ·exact absurd (h2 j' d z hd) hm
theorem uc.uniq{sg a b:Str}{i j i' j':Nat}(h:uc sg a b i j)(h':uc sg a b i' j'):i=i'/\j=j':=by
 rcases h with⟨e,h1,h2⟩|⟨e,o,h1,h2⟩
 ·rcases h' with⟨e',k1,k2⟩|⟨e',o',k1,k2⟩
  ·exact⟨e.trans e'.symm,xV ⟨h1,h2⟩ ⟨k1,k2⟩⟩
  ·obtain⟨c,hc,hn⟩:=h1
   exact absurd (o' c (nR hc)) hn
 ·rcases h' with⟨e',k1,k2⟩|⟨e',o',k1,k2⟩
  ·obtain⟨c,hc,hn⟩:=k1
   exact absurd (o c (nR hc)) hn
  ·exact⟨e.trans e'.symm,xV ⟨h1,h2⟩ ⟨k1,k2⟩⟩
def Ba(i j:Nat):List (Str×V):=aF "place" (.int j) (aF "row" (.int i) [])
theorem JZ{i j:Nat}:(Ba i j).lookup ("row" :Str)=some (.int i):=by
 unfold Ba
 rw[av,if_neg (by decide +kernel),av,if_pos rfl]
theorem EY{i j:Nat}:(Ba i j).lookup ("place" :Str)=some (.int j):=by
 unfold Ba
 rw[av,if_pos rfl]
def Ck(C:Addr):Sp:=λvs H Q E=>∃(sg:Str) (l:Addr) (a b:Str),vs=[.str sg,.ref l]/\H l=some (.lst [.str a,.str b])/\a.cps.size<=1000/\b.cps.size<=1000/\(Of sg a->Of sg b->∀H',ai H H'->Q .iz H') ∧
 (∀i j,uc sg a b i j->∀dx H',ai H H'->H' dx=some (zm dx (Ba i j))->E (.ref C) (some dx) H')
def Fz(K:PySem.W.Frag)(C CE:Addr):Sp:=λvs H Q E=>∃(x l:Addr) (sg:Str) (rows:List (List cJ)) (fo fm:cJ) (a b:Str),vs=[.ref x,.ref l]/\m7 K C H x sg rows fo fm/\H l=some (.lst [.str a,.str b])/\a.cps.size<=1000/\b.cps.size<=1000/\(Of sg a->Of sg b->∀H',ai H H'->Q .iz H') ∧
 (∀i j,uc sg a b i j->∀dx H',ai H H'->H' dx=some (zm dx (Ba i j))->E (.ref CE) (some dx) H')
theorem tE{K:PySem.W.Frag}:PySem.W.kitOne K (.type "str") (.type "list")=some false:=by kernel_rfl
theorem q8{K:PySem.W.Frag}:PySem.W.kitOne K (.type "str") (.type "tuple")=some false:=by kernel_rfl
theorem zG{α:Type}[DecidableEq α]:∀{l m:List α},l.Nodup->(∀a∈l,a∈m)->l.length<=m.length
 |[],_,_,_=>Nat.zero_le _
 |a::l,m,nd,h=>by
  have ha:=h a List.mem_cons_self
  obtain⟨n1,n2⟩:=List.nodup_cons.mp nd
  have ih:=zG (l:=l) (m:=m.erase a) n2 λb hb=>by
   have nb:b≠a:=λz=>n1 (z▸hb)
   exact(List.mem_erase_of_ne nb).mpr (h b (List.mem_cons_of_mem _ hb))
  rw[List.length_erase_of_mem ha]at ih
  have hp:0<m.length:=List.length_pos_of_mem ha
  rw[List.length_cons]
  omega
end GP
namespace GP
open PySem L2 sy
theorem zZ{sg f b:Str}{c:Nat}{k:Int}(h0:0<=k)(h1:k<=(f.cps.size:Int))(of:Of sg f)(hc:c∉sg.cps.toList):
  (∃d,((Txt.slice f none (some k)++(⟨#[c]⟩:Str))++Txt.slice f (some k) none).cps[k.toNat]? =some d/\d∉sg.cps.toList) ∧
  ∀j d,j<k.toNat->((Txt.slice f none (some k)++(⟨#[c]⟩:Str))++Txt.slice f (some k) none).cps[j]? =some d->d∈sg.cps.toList:=by
 have e:((Txt.slice f none (some k)++(⟨#[c]⟩:Str))++Txt.slice f (some k) none).cps.toList=f.cps.toList.take k.toNat++[c]++f.cps.toList.drop k.toNat:=by rw[qC,qC,Co h0 h1,Cq h0 h1]
 have l:(f.cps.toList.take k.toNat).length=k.toNat:=by rw[List.length_take,Array.length_toList];omega
 refine⟨⟨c,?_,hc⟩,λj d hj hd=>?_⟩
 ·rw[←Array.getElem?_toList,e,List.getElem?_append_left (by rw[List.length_append,l];exact Nat.lt_succ_self _),List.getElem?_append_right (by rw[l];exact Nat.le_refl _),l,Nat.sub_self]
  rfl
 ·rw[←Array.getElem?_toList,e,List.getElem?_append_left (by rw[List.length_append,l];exact Nat.lt_succ_of_lt hj),List.getElem?_append_left (by rw[l];exact hj)]at hd
  exact of d (List.mem_of_mem_take (List.mem_of_getElem? hd))
theorem Ge{f:Str}{c:Nat}{k:Int}(h0:0<=k)(h1:k<=(f.cps.size:Int)):((Txt.slice f none (some k)++(⟨#[c]⟩:Str))++Txt.slice f (some k) none).cps.size=f.cps.size+1:=by
 rw[←Array.length_toList,qC,qC,Co h0 h1,Cq h0 h1,List.length_append,List.length_append,List.length_take,List.length_drop,Array.length_toList]
 show min k.toNat f.cps.size+1+(f.cps.size-k.toNat)=_
 omega
end GP
namespace L2
open PySem PySem.Spec PyProof.Rows
section
variable{X:Cx}{o:Expr}{to:TE}{g:Str}{c j:Nat}{u:Tok}{apos cpos p1 p2:Pos}
end
end L2
namespace L2
open PySem PySem.Spec PyProof.Rows
abbrev sg(c:Nat):V:=.str ⟨#[c]⟩
theorem wF:∀{cs:List Nat} {us:List Value},Vals (cs.map sg) us->∃l:List (Str×Tok),us=strValues l/\l.map (·.1)=cs.map λc=>(⟨#[c]⟩:Str)
 |[],_,.nil=>⟨[],rfl,rfl⟩
 |c::cs,_,.cons r rs=>by
  obtain⟨t,e⟩:=r
  obtain⟨l,e1,e2⟩:=wF rs
  exact⟨(⟨#[c]⟩,t)::l,by rw[e,e1];rfl,by rw[List.map_cons,e2];rfl⟩
theorem zN:∀(l:List Nat) (n:Nat),(l.map λc=>(⟨#[c]⟩:Str)).foldl (λa (x:Str)=>a+x.length+(⟨#[]⟩:Str).length) n=n+l.length
 |[],_=>rfl
 |c::l,n=>by
  rw[List.map_cons,List.foldl_cons,zN l]
  show n+1+0+l.length=n+(l.length+1)
  omega
theorem Jo{X:Cx}{K':PySem.W.Frag}(hK:X.K=K'):YS X "str.join" (λx xs H Q=>∃(l:Addr) (cs:List Nat),x= .str ⟨#[]⟩/\xs=[.ref l]/\bI K' H l (cs.map sg)/\cs.length<=100000/\Q (.str ⟨cs.toArray⟩) H):=by
 subst hK
 intro pins s σ H x xs v us Q I rx rs h
 obtain⟨l,cs,rfl,rfl,hl,hn,q⟩:=h
 obtain⟨t,rfl⟩:=rx
 cases rs with
 |cons r rr =>
  cases rr
  cases r
  obtain⟨its,r1,t1,_⟩:=I.list hl
  obtain⟨ls,e1,e2⟩:=wF r1
  refine TK.bY (Nat.le_refl s.toks) (SC.join (l:=ls) (by rw[←e1];exact t1.isList) e2 ?_ λt' k hk=>⟨.str ⟨cs.toArray⟩,H,I.tok k hk,⟨t',?_⟩,q⟩)
  ·unfold JoinOk
   rw[List.foldl_toArray,zN]
   unfold Builtin.Str.tooLong
   rw[Bool.not_eq_true',decide_eq_false_iff_not,Nat.zero_add]
   exact Nat.not_lt.mpr (Nat.le_trans hn (by decide))
  ·have e:Txt.join ⟨#[]⟩ (cs.map λc=>(⟨#[c]⟩:Str))=⟨cs.toArray⟩:=by
    show Builtin.Str.glued _ _=_
    rw[StrLaws.glued_eq_join,join_ones]
   rw[e]
theorem F4{X:Cx}:YS X "str.join" (λx xs H Q=>∃(l:Addr) (cs:List Nat),x= .str ⟨#[]⟩/\xs=[.ref l]/\bI X.K H l (cs.map sg)/\cs.length<=100000/\Q (.str ⟨cs.toArray⟩) H):=Jo rfl
end L2
namespace L2
open PySem PySem.Spec PyProof.Rows
def nv(sp:Sp):Sp:=λvs H Q _=>sp vs H Q λ_ _ _=>False
theorem aI.nv{P:Program}{w:World}{K:PySem.W.Frag}{mg:Str->Option Value}{base:Heap}{k:Nat}{f:Addr}{fd:FuncData}{ps:List Str}{sp:Sp}(F:aI P w K mg base (vz P w) k f fd ps sp):aI P w K mg base b8 k f fd ps (nv sp) :=
 ⟨λvs H Q E q=>F.len vs H Q _ q,λA outer s H args us vs Q E hr he hb hv hs=>codeAny_mono (F.run A outer s H args us vs Q _ hr he hb hv hs) λr s' h=>by
  cases r with
  |error e=>obtain⟨ea,cls,od,H',h⟩:=h;exact(h.2.2.2.2.2.2.2:False).elim
  |ok fl=>cases fl<;>exact h⟩
theorem Bh{J:It}{g:TG}{te:TE}{σ':St}{H1:Hp}{D:Hp->Prop}{l:Addr}(n:Nat)(f:Nat->V)(hl:H1 l=none)(hn:n<sizeLine)
  (go:∀i H,ai H1 H->i<n->J.go i H) (st:∀H,ai H1 H->J.stop n H)
  (el:∀i x H H3 (R:VK),ai H1 H->i<n->J.Ad i H x H3->(∀H5,ai H H5->R (f i) H5)->g x σ' H3 λud H4=>Kp σ' ud/\te ud H4 R)
  (fin:∀H',ai H1 H'->H' l=some (.lst ((List.range n).map f))->D H') :
  ∃W:Nat->Nat->List V->Hp->Prop,(∃m,W 0 m [] (upd H1 l (.lst [])))/\∀i m ys H2,W i m ys H2->(J.stop i H2/\D H2) ∨
   (J.go i H2/\∀x H3,J.Ad i H2 x H3->g x σ' H3 λud H4=>Kp σ' ud/\te ud H4 λy H5=>H5 l=some (.lst ys)/\ys.length<sizeLine/\∃m',m'<m/\W (i+1) m' (ys++[y]) (upd H5 l (.lst (ys++[y])))):=by
 refine⟨λi m ys H2=>m=n-i/\i<=n/\ys=(List.range i).map f/\ai H1 H2/\H2 l=some (.lst ys),⟨n,rfl,Nat.zero_le _,rfl,GP.ai.upd hl,ah⟩,?_⟩
 rintro i m ys H2 ⟨rfl,hi,rfl,s2,h2⟩
 by_cases hlt:i<n
 ·refine .inr ⟨go i H2 s2 hlt,λx H3 y=>el i x H2 H3 _ s2 hlt y λH5 s5=>?_⟩
  refine⟨s5 _ _ h2,by rw[List.length_map,List.length_range];omega,n-(i+1),by omega,rfl,hlt,?_,GP.ai.at (s2.trans s5) hl,ah⟩
  rw[List.range_succ,List.map_append];rfl
 ·have e:i=n:=by omega
  subst e
  exact .inl ⟨st H2 s2,fin H2 s2 h2⟩
theorem tN{J:It}{g:TG}{tt:TT}{te:TE}{σ':St}{H1:Hp}{D:Hp->Prop}{l:Addr}(n:Nat)(b:Nat->Bool)(f:Nat->V)(hl:H1 l=none)(hn:n<sizeLine)
  (go:∀i H,ai H1 H->i<n->J.go i H) (st:∀H,ai H1 H->J.stop n H)
  (el:∀i x H H3 (R:VK) (S:Hp->Prop),ai H1 H->i<n->J.Ad i H x H3->(b i=true->∀H5,ai H H5->R (f i) H5)->(b i=false->∀H5,ai H H5->S H5) →
   g x σ' H3 λud H4=>Kp σ' ud/\tt ud H4 λb' H5=>if b'=true then te ud H5 R else S H5)
  (fin:∀H',ai H1 H'->H' l=some (.lst (((List.range n).filter b).map f))->D H') :
  ∃W:Nat->Nat->List V->Hp->Prop,(∃m,W 0 m [] (upd H1 l (.lst [])))/\∀i m ys H2,W i m ys H2->(J.stop i H2/\D H2) ∨
   (J.go i H2/\∀x H3,J.Ad i H2 x H3->g x σ' H3 λud H4=>Kp σ' ud/\tt ud H4 λb H5 =>
    if b=true then te ud H5 (λy H6=>H6 l=some (.lst ys)/\ys.length<sizeLine/\∃m',m'<m/\W (i+1) m' (ys++[y]) (upd H6 l (.lst (ys++[y]))))else ∃m',m'<m/\W (i+1) m' ys H5):=by
 refine⟨λi m ys H2=>m=n-i/\i<=n/\ys=((List.range i).filter b).map f/\ai H1 H2/\H2 l=some (.lst ys),⟨n,rfl,Nat.zero_le _,rfl,GP.ai.upd hl,ah⟩,?_⟩
 rintro i m ys H2 ⟨rfl,hi,rfl,s2,h2⟩
 by_cases hlt:i<n
 ·refine .inr ⟨go i H2 s2 hlt,λx H3 y=>el i x H2 H3 _ _ s2 hlt y (λhb H5 s5=>?_) λhb H5 s5=>?_⟩
  ·refine⟨s5 _ _ h2,?_,n-(i+1),by omega,rfl,hlt,?_,GP.ai.at (s2.trans s5) hl,ah⟩
   ·rw[List.length_map]
    exact Nat.lt_of_le_of_lt (Nat.le_trans (List.length_filter_le _ _) (by rw[List.length_range];omega)) hn
   ·rw[List.range_succ,List.filter_append,List.map_append,List.filter_cons_of_pos hb];rfl
  ·refine⟨n-(i+1),by omega,rfl,hlt,?_,s2.trans s5,s5 _ _ h2⟩
   rw[List.range_succ,List.filter_append,List.filter_cons_of_neg (by rw[hb];exact Bool.false_ne_true),List.filter_nil,List.append_nil]
 ·have e:i=n:=by omega
  subst e
  exact .inl ⟨st H2 s2,fin H2 s2 h2⟩
end L2
namespace L2
open PySem PySem.Spec PyProof.Rows
def TZ(K:PySem.W.Frag)(a:Addr)(n:Nat):It :=
 ⟨λi H=>∃xs x,bI K H a xs/\i<n/\xs[n-1-i]? =some x,λi H x H'=>H'=H/\∀xs,bI K H a xs->xs[n-1-i]? =some x,λi _=>n<=i⟩
theorem Iq{P:Program}{w:World}{K:PySem.W.Frag}{tg:Expr}(a it:Addr)(n:Nat):Turn P w K tg (TZ K a n) [it] it (λi h=>i<=n/\h.IsRevIter it a ((n:Int)-1-(i:Int))) where
 mem:=by simp
 obj:=λi h st b hb=>by
  have e:b=it:=by simpa using hb
  subst e
  obtain⟨o,e,c,d⟩:=st.2
  exact⟨o,e,λv z=>by rw[d]at z;cases z⟩
 keep:=λi h h' st k=>⟨st.1,st.2.at λo e=>k it (by simp) o e⟩
 item:=by
  intro X hP hw hK hc i pins s σ H E I hf st hg
  subst hP hw hK
  obtain⟨xs,x,hq,hi,hx⟩:=hg
  obtain⟨its,rv,p,hz⟩:=I.list hq
  obtain⟨u,hu,ru⟩:=rv.get hx
  obtain⟨f0,f1,f2,f3,f4,f5⟩:=hf it (by simp)
  have st':s.heap.IsRevIter it a ((n-1-i:Nat):Int):=by
   rw[show((n-1-i:Nat):Int)=(n:Int)-1-(i:Int) by omega]
   exact st.2
  refine wpAny_pyNext_rev_item st' p.isList (x:=u) (by simpa using hu) λh' st' sb=>?_
  have I1:Inv X pins σ H { s with heap:=h' }:=I.turned (t':=s.toks) (λb o hb e=>(sb.2 b hb).trans e) f0 f1 f3 f4 f5
  obtain⟨o,e,c,d⟩:=id st'
  refine⟨u,rfl,Df (s:={ s with heap:=h' }) e c d (by decide) ⟨x,H,I1,ru,⟨rfl,λys hy=>by rw[I.xM hy hq];exact hx⟩,⟨by omega,?_⟩,λb hb=>(hf b hb).1⟩⟩
  rw[show(n:Int)-1-((i+1:Nat):Int)=((n-1-i:Nat):Int)-1 by omega]
  exact st'
 done:=by
  intro X hP hw hK hc i pins s σ H E I hf st hg
  subst hP hw hK
  obtain⟨f0,f1,f2,f3,f4,f5⟩:=hf it (by simp)
  have hg':n<=i:=hg
  have st':s.heap.IsRevIter it a (-1):=by
   rw[show(-1:Int)=(n:Int)-1-(i:Int) by have:=st.1;omega]
   exact st.2
  exact wpAny_pyNext_rev_end (I.ok.hd hc) st' λh' eb=>⟨rfl,I.turned (t':=s.toks) (λb o hb e=>eb b o hb e) f0 f1 f3 f4 f5⟩
 self:=λ_ _ _ _ _ st h=>wpAny_pyIter_revIter st.2 h
def Xk(K:PySem.W.Frag)(ta:TA):TI:=λσ H R=>ta σ H λvs H1=>∃a xs,vs=[.ref a]/\bI K H1 a xs/\R (TZ K a xs.length) H1
theorem boot_reversed:bootBuiltins "reversed" =some (.type "reversed"):=by decide +kernel
theorem Jb {X:Cx} {tg a:Expr} {ta:TA} {p pos:Pos} (hg:Gl X "reversed") (hm:X.mg "reversed" =none) (ha:PA X [a] ta) (hs:starEach [a] X.env=[(false,eval a X.env)]:=by rfl):PI X tg (.Call (.Name "reversed" p) [a] [] pos) (Xk X.K ta):=by
 intro pins s σ H R I h
 refine Call_ (qi I hg hm boot_reversed (PyProof.Rows.callWith_type1 (fh (ha pos pins s σ H _ I h) λus s1 ⟨vs,H1,I1,r1,q1⟩=>?_) hs rfl))
 obtain⟨l,xs,rfl,hq,q⟩:=q1
 obtain⟨u,rfl,ru⟩:=vals1 r1
 cases ru
 obtain⟨its,rv,pl,hz⟩:=I1.list hq
 have hl:s1.heap.IsList l its.toArray:=pl.isList
 have hlen:=rv.length
 refine call_reversed_list hl ?_
 have e0:({ s1 with heap:=s1.heap.push (revObj l ((its.toArray.size:Int)-1)) }:Shared).heap.IsRevIter s1.heap.objs.size l ((xs.length:Int)-1-((0:Nat):Int)) :=
  ⟨_,Heap.get?_push_size _ rfl,rfl,by rw[show(xs.length:Int)-1-((0:Nat):Int)=(its.toArray.size:Int)-1 by rw[List.size_toArray];omega];rfl⟩
 refine wpAny_pyIter_revIter e0 ?_
 refine⟨s1.heap.objs.size,[s1.heap.objs.size],_,_,H1,rfl,I1.kept (t':=s1.toks) λb o e=>Heap.get?_push_of_some _ e,Iq l _ xs.length,⟨Nat.zero_le _,e0⟩,λb hb=>?_,q⟩
 have e:b=s1.heap.objs.size:=by simpa using hb
 subst e
 exact I1.vQ (Nat.le_refl _) (I1.hok.fresh (Nat.le_refl _))
end L2
namespace L2
open PySem PySem.Spec PyProof.Rows
theorem Gj{K:PySem.W.Frag}{a:Addr}{xs:List V}{g:TG}{tb:TS}{D:Ends}{σ:St}{H:Hp}(Pv:Nat->St->Hp->Prop)(h0:Pv 0 σ H)(hl:∀i σ H,i<xs.length->Pv i σ H->bI K H a xs)
  (hs:∀i x σ H,i<xs.length->xs[xs.length-1-i]? =some x->Pv i σ H->g x σ H λσ2 H2=>tb { D with nx:=Pv (i+1),ct:=Pv (i+1),bk:=D.nx } σ2 H2) (hd:∀ σ H,Pv xs.length σ H->D.nx σ H) :
  ∃W:Nat->Nat->St->Hp->Prop,(∃m,W 0 m σ H)/\∀i m σ H,W i m σ H →
   ((TZ K a xs.length).stop i H/\D.nx σ H)\/((TZ K a xs.length).go i H/\∃N:St->Hp->Prop,(∀ σ' H',N σ' H'->∃m',m'<m/\W (i+1) m' σ' H')/\∀x H',(TZ K a xs.length).Ad i H x H'->g x σ H' λσ2 H2=>tb { D with nx:=N,ct:=N,bk:=D.nx } σ2 H2):=by
 refine⟨λi m σ H=>m=xs.length-i/\i<=xs.length/\Pv i σ H,⟨xs.length,by simp,Nat.zero_le _,h0⟩,?_⟩
 rintro i m σ H ⟨rfl,hi,p⟩
 by_cases hlt:i<xs.length
 ·have hx:xs[xs.length-1-i]? =some xs[xs.length-1-i]:=List.getElem?_eq_getElem (by omega)
  refine .inr ⟨⟨xs,_,hl i σ H hlt p,hlt,hx⟩,Pv (i+1),λσ' H' p'=>⟨xs.length-(i+1),by omega,rfl,hlt,p'⟩,λx H' y=>?_⟩
  obtain⟨e,y⟩:=y
  subst e
  exact hs i x σ _ hlt (y xs (hl i σ _ hlt p)) p
 ·have e:i=xs.length:=by omega
  subst e
  exact .inl ⟨Nat.le_refl _,hd σ H p⟩
end L2
namespace L2
open PySem PySem.Spec PyProof.Rows
abbrev NK:=Int×Int×Str
section
variable{P:Program}{w:World}{A:Around}{E:Value->Shared->Prop}{s:Shared}
def pJ(P:Program)(w:World)(h:Heap)(k:NK)(a:Addr):Prop:=∃o n p t,h.get? a=some o/\o.cls= .type "tuple" /\o.data= .seq #[.ref p,.str k.2.2 t] n/\IsTupleKey (bV P w) h [.inl k.1,.inl k.2.1] p
theorem pJ.typeIs{k:NK}{a:Addr}(x:pJ P w s.heap k a):s.TypeIs (.ref a) "tuple" :=let ⟨o,_,_,_,ho,hc,_⟩:=x;⟨o,ho,hc⟩
theorem pJ.inj{h:Heap}{a:Addr}{x y:NK}(hx:pJ P w h x a)(hy:pJ P w h y a):x=y:=by
 obtain⟨o,n,p,t,ho,_,hd,hi⟩:=hx
 obtain⟨o',n',p',t',ho',_,hd',hi'⟩:=hy
 obtain rfl:o=o':=Option.some.inj (ho.symm.trans ho')
 rw[hd]at hd'
 injection hd' with h1 _
 have pL:=congrArg Array.toList h1
 simp only[List.cons.injEq,Value.ref.injEq,Value.str.injEq,and_true]at pL
 obtain⟨rfl,e,_⟩:=pL
 have:=hi.inj hi'
 simp only[List.cons.injEq,Sum.inl.injEq,and_true]at this
 obtain⟨x1,x2,x3⟩:=x
 obtain⟨y1,y2,y3⟩:=y
 simp only at e this
 obtain⟨rfl,rfl⟩:=this
 subst e
 rfl
theorem pJ.keeps{h h':Heap}{k:NK}{a d:Addr}{o:Obj}{es ep}(x:pJ P w h k a)(ho:h.get? d=some o)(hd:o.data= .dict es ep)(hs:Heap.SameBut d h h'):pJ P w h' k a:=by
 obtain⟨o',n,p,t,ho',hc,hd',hi⟩:=x
 have hne:a≠d:=by
  rintro rfl
  obtain rfl:o'=o:=Option.some.inj (ho'.symm.trans ho)
  rw[hd]at hd';exact nomatch hd'
 exact⟨o',n,p,t,(hs.2 a hne).trans ho',hc,hd',hi.keeps ho hd hs⟩
def EE(P:Program)(w:World)(k:NK):Int:=reduceHash (Builtin.Tuple.tupleHashOf [tupleKeyHash (bV P w) [.inl k.1,.inl k.2.1],(bV P w).hash (.inr k.2.2)])
theorem GX{k:NK}{a:Addr}{Q:Int->Shared->Prop}(hu:A.units+1<cLine)(hk:pJ P w s.heap k a)(h:Q (EE P w k) { s with toks:=s.toks+5 }):
  wpAny (model P w) A (pyHash (.ref a)) Q E s:=by
 have hT:=hk.typeIs
 obtain⟨o,n,p,t,ho,_,hd,hi⟩:=hk
 unfold pyHash
 first|unfold pyHashByItsType|skip
 first|refine wpAny_bind (wpAny_cRoomFor_or (.inr (Nat.lt_of_succ_lt hu)) ?_)|skip
 refine wpAny_bind (wpAny_specialOf hT PySem.F.slot_tuple_hash.lookup ?_)
 show wpAny _ _ (if(some (Value.builtin "tuple.__hash__")==some Value.none)=true then _ else _) Q E s
 rw[if_neg (by rw[beq_builtin_none];exact Bool.false_ne_true)]
 refine wpAny_bind (wpAny_specialOf hT PySem.F.slot_tuple_hash.lookup ?_)
 show wpAny _ _ (callSpecialIfBoundUnlessNone? (.ref a) "__hash__" _ >>= _) Q E s
 refine wpAny_bind (wpAny_callSpecialIfBoundUnlessNone?_slot hT PySem.F.slot_tuple_hash (wpAny_call_entry PySem.F.slot_tuple_hash hT PySem.F.entry_tuple_hash ?_ (PySem.F.args_tuple_hash_1 _)))
 show wpAny _ _ (Builtin.Tuple.tupleItemsOf (.ref a) >>= _) _ _ s
 refine wpAny_bind (wpAny_tupleItemsOf ho hd ?_)
 refine wpAny_bind ?_
 rw[←Array.forIn_toList]
 refine wpAny_forIn_list _
  (λrest (b:Array Int) s'=>(rest=[.ref p,.str k.2.2 t]/\b= #[]/\s'=s)\/(rest=[.str k.2.2 t]/\b.toList=[tupleKeyHash (bV P w) [.inl k.1,.inl k.2.1]]/\s'={ s with toks:=s.toks+3 }) ∨
   (rest=[]/\b.toList=[tupleKeyHash (bV P w) [.inl k.1,.inl k.2.1],(bV P w).hash (.inr k.2.2)]/\s'={ s with toks:=s.toks+4 })) _ ?_ ?_ _ _ (.inl ⟨rfl,rfl,rfl⟩)
 ·rintro x rest b s' (⟨e,rfl,rfl⟩|⟨e,hb,rfl⟩|⟨e,_⟩)
  ·cases e
   refine wpAny_bind (wpAny_pyHash_tuple (knd:=bV P w) (ks:=[.inl k.1,.inl k.2.1]) hu hi ?_)
   first
    |exact wpAny_pure (.inr (.inl ⟨rfl,rfl,rfl⟩))
    |exact wpAny_bind (wpAny_pure (wpAny_pure (.inr (.inl ⟨rfl,rfl,rfl⟩))))
  ·cases e
   refine wpAny_bind ((bV P w).pyHash (k:=.inr k.2.2) (v:=.str k.2.2 t) (by show decide _=true;simp) ?_)
   first
    |exact wpAny_pure (.inr (.inr ⟨rfl,by simp[hb],rfl⟩))
    |exact wpAny_bind (wpAny_pure (wpAny_pure (.inr (.inr ⟨rfl,by simp[hb],rfl⟩))))
  ·cases e
 ·rintro b s' (⟨e,_⟩|⟨e,_⟩|⟨_,hb,rfl⟩)
  ·cases e
  ·cases e
  show wpAny _ _ (retInt (Builtin.Tuple.tupleHashOf b.toList)) _ _ _
  rw[hb]
  refine wpAny_ret_mkInt ?_
  unfold EE at h
  generalize Builtin.Tuple.tupleHashOf [tupleKeyHash (bV P w) [.inl k.1,.inl k.2.1],(bV P w).hash (.inr k.2.2)]=T at *
  show wpAny _ _ (if(decide (-(2:Int) ^ 63<=T)&&decide (T<2 ^ 63))=true then _ else _) Q E _
  unfold reduceHash at h
  by_cases hr:(decide (-(2:Int) ^ 63<=T)&&decide (T<2 ^ 63))=true
  ·rw[if_pos hr]
   rw[if_pos hr]at h
   exact wpAny_pure h
  ·rw[if_neg hr]
   rw[if_neg hr]at h
   exact wpAny_bind (wpAny_rule (wpAny_pure h))
theorem ED{x y:NK}{a b:Addr}{Pq:PySem.Fin->Shared->Prop}(hu:A.units<cLine)(hx:pJ P w s.heap x a)(hy:pJ P w s.heap y b)(h:Pq (.done (.ret (.bool (decide (x=y))))) s):
  wpAny (model P w) A (Builtin.«tuple.__eq__» ⟨[.ref a,.ref b],[]⟩) Pq E s:=by
 have hTb:=hy.typeIs
 obtain⟨oa,na,p,t,hoa,_,hda,ZO⟩:=hx
 obtain⟨ob,nb,q,u,hob,_,hdb,hib⟩:=hy
 obtain⟨x1,x2,x3⟩:=x
 obtain⟨y1,y2,y3⟩:=y
 simp only at hda ZO hdb hib
 show wpAny _ _ (isInstance (.ref b) (.type "tuple") >>= _) _ _ s
 refine wpAny_bind (wpAny_isInstance hTb isSubtype_tuple_tuple ?_)
 simp only[Bool.not_true,Bool.false_eq_true,if_false]
 refine wpAny_bind (wpAny_tupleItemsOf hoa hda ?_)
 refine wpAny_bind (wpAny_tupleItemsOf hob hdb ?_)
 refine wpAny_bind ?_
 refine wpAny_forIn_list _
  (λrest r s'=>r.1=none/\s'=s/\(rest=[(.ref p,.ref q),(.str x3 t,.str y3 u)]\/(rest=[(.str x3 t,.str y3 u)]/\x1=y1/\x2=y2)\/(rest=[]/\x1=y1/\x2=y2/\x3=y3))) _ ?_ ?_ _ _ ⟨rfl,rfl,.inl rfl⟩
 ·rintro⟨c,d⟩ rest r s' ⟨hr,rfl,e|⟨e,rfl,rfl⟩|⟨e,_⟩⟩
  ·cases e
   refine wpAny_bind (wpAny_eqBool_tuple (knd:=bV P w) (x:=[.inl x1,.inl x2]) (y:=[.inl y1,.inl y2]) hu ZO hib ?_)
   by_cases hk:x1=y1/\x2=y2
   ·obtain⟨rfl,rfl⟩:=hk
    rw[decide_eq_true rfl]
    simp only[Bool.not_true,Bool.false_eq_true,if_false]
    exact wpAny_pure ⟨rfl,rfl,.inr (.inl (by simp))⟩
   ·have e1:¬([Sum.inl x1,Sum.inl x2]:List Key)=[.inl y1,.inl y2]:=λz=>hk (by simpa using z)
    rw[decide_eq_false e1]
    simp only[Bool.not_false,if_true]
    have hf:decide ((x1,x2,x3)=(y1,y2,y3))=false:=decide_eq_false λz=>hk (by simp only[Prod.mk.injEq]at z;exact⟨z.1,z.2.1⟩)
    rw[hf]at h
    exact wpAny_bind (wpAny_pure (wpAny_pure (wpAny_pure h)))
  ·cases e
   refine wpAny_bind ((bV P w).eqBool (a:=.inr x3) (b:=.inr y3) (u:=.str x3 t) (v:=.str y3 u) (qc P w x3 t) (qc P w y3 u) ?_)
   by_cases hk:x3=y3
   ·subst hk
    rw[decide_eq_true rfl]
    simp only[Bool.not_true,Bool.false_eq_true,if_false]
    exact wpAny_pure ⟨rfl,rfl,.inr (.inr (by simp))⟩
   ·have e1:¬(Sum.inr x3:Key)= .inr y3:=λz=>hk (by simpa using z)
    rw[decide_eq_false e1]
    simp only[Bool.not_false,if_true]
    have hf:decide ((x1,x2,x3)=(x1,x2,y3))=false:=decide_eq_false λz=>hk (by simp only[Prod.mk.injEq]at z;exact z.2.2)
    rw[hf]at h
    exact wpAny_bind (wpAny_pure (wpAny_pure (wpAny_pure h)))
  ·cases e
 ·rintro⟨r1,r2⟩ s' ⟨hr,rfl,e|⟨e,_⟩|⟨_,rfl,rfl,rfl⟩⟩
  ·cases e
  ·cases e
  simp only at hr
  subst hr
  refine wpAny_pure ?_
  rw[decide_eq_true rfl]at h
  exact h
theorem GY{x y:NK}{a b:Addr}{Q:Bool->Shared->Prop}(hu:A.units+1<cLine)(hx:pJ P w s.heap x a)(hy:pJ P w s.heap y b)(h:Q (decide (x=y)) s):
  wpAny (model P w) A (eqBool (.ref a) (.ref b)) Q E s:=by
 unfold eqBool
 try with_reducible refine wpAny_holding ?_
 show wpAny _ _ (if(Value.ref a==Value.ref b)=true then _ else _) Q E s
 by_cases hab:(Value.ref a==Value.ref b)=true
 ·rw[if_pos hab]
  have e:a=b:=by have:=eq_of_beq hab;injection this
  subst e
  obtain rfl:=hx.inj hy
  exact wpAny_bind (wpAny_rule (wpAny_pure (by simpa using h)))
 ·rw[if_neg hab]
  exact wpAny_bind (wpAny_richCompare_same_room (op:=.Eq) hx.typeIs hy.typeIs PySem.F.slot_tuple_eq
   (wpAny_call_entry PySem.F.slot_tuple_eq hx.typeIs PySem.F.entry_tuple_eq (ED hu hx hy ⟨_,rfl,(λe=>nomatch e),wpAny_truthy_bool h⟩) (PySem.F.args_tuple_eq_2 _ _)) (Nat.lt_of_succ_lt hu))
theorem Cw(n:Nat){ks:List Key}{a:Addr}{Q:Bool->Shared->Prop}(hk:IsTupleKey (bV P w) s.heap ks a)(h:Q true s):wpAny (model P w) A (eqIsQuiet (n+1) (.ref a)) Q E s:=by
 have hT:=hk.typeIs
 obtain⟨o,items,m,ho,_,hd,hi⟩:=hk
 unfold eqIsQuiet
 refine wpAny_bind (wpAny_specialOf hT PySem.F.slot_tuple_eq.lookup ?_)
 show wpAny _ _ (isInstance (.ref a) (.type "tuple") >>= _) _ _ s
 refine wpAny_bind (wpAny_isInstance hT isSubtype_tuple_tuple ?_)
 simp only[Bool.not_true,Bool.false_eq_true,if_false]
 refine wpAny_bind (wpAny_seqItems ho hd ?_)
 refine wpAny_bind ?_
 show wpAny _ _ (forIn items _ _) _ _ s
 rw[←Array.forIn_toList]
 refine wpAny_forIn_list _ (λrest r s'=>r.1=none/\s'=s/\∀v∈rest,carriedByValue v=true) _ ?_ ?_ _ _ ⟨rfl,rfl,hi.byValue⟩
 ·rintro v rest r s' ⟨hr,rfl,hall⟩
  rw[eqIsQuiet_byValue _ (hall v List.mem_cons_self)]
  refine wpAny_bind (wpAny_pure ?_)
  simp only[Bool.not_true,Bool.false_eq_true,if_false]
  exact wpAny_pure ⟨rfl,rfl,λu Xv=>hall u (List.mem_cons_of_mem _ Xv)⟩
 ·rintro⟨r1,r2⟩ s' ⟨hr,rfl,_⟩
  simp only at hr
  subst hr
  exact wpAny_pure h
theorem Jk{k:NK}{a:Addr}{Q:Bool->Shared->Prop}(hk:pJ P w s.heap k a)(h:Q true s):wpAny (model P w) A (eqIsQuiet 8 (.ref a)) Q E s:=by
 have hT:=hk.typeIs
 obtain⟨o,m,p,t,ho,_,hd,hi⟩:=hk
 unfold eqIsQuiet
 refine wpAny_bind (wpAny_specialOf hT PySem.F.slot_tuple_eq.lookup ?_)
 show wpAny _ _ (isInstance (.ref a) (.type "tuple") >>= _) _ _ s
 refine wpAny_bind (wpAny_isInstance hT isSubtype_tuple_tuple ?_)
 simp only[Bool.not_true,Bool.false_eq_true,if_false]
 refine wpAny_bind (wpAny_seqItems ho hd ?_)
 refine wpAny_bind ?_
 show wpAny _ _ (forIn #[Value.ref p,Value.str k.2.2 t] _ _) _ _ s
 rw[←Array.forIn_toList]
 refine wpAny_forIn_list _ (λrest r s'=>r.1=none/\s'=s/\∀v∈rest,v= .ref p\/carriedByValue v=true) _ ?_ ?_ _ _ ⟨rfl,rfl,λv hv=>?_⟩
 ·rintro v rest r s' ⟨hr,rfl,hall⟩
  have step:wpAny (model P w) A (eqIsQuiet 7 v) (λb s2=>b=true/\s2=s') E s':=by
   rcases hall v List.mem_cons_self with rfl|hv
   ·exact Cw 6 hi ⟨rfl,rfl⟩
   ·rw[eqIsQuiet_byValue _ hv]
    exact wpAny_pure ⟨rfl,rfl⟩
  refine wpAny_bind (wpAny_mono step (λb s2 z=>?_) λ_ _ z=>z)
  obtain⟨rfl,rfl⟩:=z
  simp only[Bool.not_true,Bool.false_eq_true,if_false]
  exact wpAny_pure ⟨rfl,rfl,λu Xv=>hall u (List.mem_cons_of_mem _ Xv)⟩
 ·rintro⟨r1,r2⟩ s' ⟨hr,rfl,_⟩
  simp only at hr
  subst hr
  exact wpAny_pure h
 ·simp only[List.mem_cons,List.not_mem_nil,or_false]at hv
  rcases hv with rfl|rfl
  ·exact .inl rfl
  ·exact .inr rfl
end
def lM(P:Program)(w:World):HeapKind P w NK where
 is:=pJ P w
 hash:=EE P w
 draws:=λ_=>5
 room:=λA=>A.units+1<cLine
 inj:=λhx hy=>hx.inj hy
 keeps:=λx ho hd hs=>x.keeps ho hd hs
 pyHash:=λhu hk h=>GX hu hk h
 eqBool:=λhu hx hy h=>GY hu hx hy h
 quiet:=λhk h=>Jk hk h
end L2
namespace L2
open PySem PySem.Spec PyProof.Rows PySem.W
def Bw(d:Addr)(es:Array DictEntry)(ep:Nat)(h:Heap):Prop:=∃o,h.get? d=some o/\o.ExactDict/\o.data= .dict es ep
section
variable{P:Program}{w:World}{A:Around}{E:Value->Shared->Prop}{s:Shared}{d:Addr}{es:Array DictEntry}{ep:Nat}
theorem Bw.ty(m:Bw d es ep s.heap):s.TypeIs (.ref d) "dict" :=let ⟨o,ho,hc,_⟩:=m;⟨o,ho,hc.1⟩
theorem Bw.mv{h h':Heap}(m:Bw d es ep h)(e:∀o,h.get? d=some o->h'.get? d=some o):Bw d es ep h':=let ⟨o,ho,r⟩:=m;⟨o,e _ ho,r⟩
theorem IW{Q:Value->Shared->Prop}(hd:(d==sysModules)=false)(m:Bw d es ep s.heap)
  (hQ:Q (.ref s.heap.objs.size) { s with heap:=s.heap.push { cls:=.type "dict_keyiterator",data:=.fields #[.ref d,.int 0 0,.int es.size 0,.int ep 0] } }):wpAny (model P w) A (pyIter (.ref d)) Q E s:=by
 have hT:=m.ty
 obtain⟨o,ho,hc,hdat⟩:=m
 refine wpAny_pyIter_slot hT PySem.F.slot_dict_iter (wpAny_call_entry PySem.F.slot_dict_iter hT PySem.F.entry_dict_iter ?_ (PySem.F.args_dict_iter_1 _))
 unfold Builtin.«dict.__iter__»
 refine wpAny_bind ?_
 unfold Builtin.Dict.dictSlotNone
 refine wpAny_bind (wpAny_notOrdered_dict hT ?_)
 show wpAny _ _ (pure (Value.ref d)) _ _ s
 refine wpAny_pure ?_
 show wpAny _ _ (Builtin.Dict.showsAll d >>= _) _ _ s
 unfold Builtin.Dict.showsAll
 rw[if_neg (by rw[hd];exact Bool.false_ne_true)]
 refine wpAny_bind (wpAny_pure (wpAny_bind (wpAny_dictEntries ho hdat (wpAny_bind (wpAny_dictEpoch ho hdat ?_)))))
 refine wpAny_bind (wpAny_newObj_type (wpAny_pure ⟨_,rfl,"dict_keyiterator",_,⟨_,Heap.get?_push_size _ rfl,rfl⟩,PySem.F.slot_dict_keyiterator_next.lookup,?_⟩))
 simpa[rawInt]using hQ
theorem Cv{it:Addr}{i:Nat}{Q:Option Value->Shared->Prop}(hit:s.heap.IsKeyIter it d i es.size ep)(m:Bw d es ep s.heap)
  (item:∀(hi:i<es.size) h',h'.IsKeyIter it d (i+1) es.size ep->Heap.SameBut it s.heap h'->Q (some es[i].key) { s with heap:=h' })
  (stop:es.size<=i->A.handled=none/\∀h',Heap.ExtBut it s.heap h'->Q none { s with heap:=h' }):wpAny (model P w) A (pyNext (.ref it)) Q E s:=by
 obtain⟨o,ho,hc,hd⟩:=id hit
 obtain⟨od,hod,hcd,UC⟩:=m
 unfold pyNext
 refine wpAny_bind (wpAny_attempt (wpAny_callSpecial?_slot (name:=Str.ofString "__next__") hit.typeIs PySem.F.slot_dict_keyiterator_next
  (wpAny_call_entry PySem.F.slot_dict_keyiterator_next hit.typeIs PySem.F.entry_dict_keyiterator_next ?_ (PySem.F.args_dict_keyiterator_next_1 _))))
 refine wpAny_bind (wpAny_pure (wpAny_bind (wpAny_bind ?_)))
 first|refine wpAny_bind (wpAny_typeNameOfWhole_keyiter hit.typeIs (wpAny_pure ?_))|refine wpAny_bind (wpAny_typeNameOf_keyiter hit.typeIs (wpAny_pure ?_))
 refine wpAny_bind (wpAny_fieldsOf ho hd ?_)
 have hown:Builtin.Dict_items.ownsTuple "dict_keyiterator" =false:=by decide
 simp only[hown,Bool.false_eq_true,if_false]
 show wpAny _ _ (if(Value.ref d==Value.none)=true then _ else _) _ _ s
 rw[if_neg (show ¬((Value.ref d==Value.none)=true) from Bool.false_ne_true)]
 refine wpAny_bind (wpAny_pure (wpAny_bind (wpAny_dictEntries hod UC ?_)))
 rw[if_neg (by simp)]
 refine wpAny_bind (wpAny_pure (wpAny_bind (wpAny_dictEpoch hod UC ?_)))
 rw[if_neg (by simp)]
 refine wpAny_pure ?_
 by_cases hlt:i<es.size
 ·simp only[show ¬((i:Int)<0) from by omega,if_false,Int.toNat_natCast,Array.getElem?_eq_getElem hlt]
  refine wpAny_bind ?_
  first|refine wpAny_bind (wpAny_typeNameOfWhole_keyiter hit.typeIs (wpAny_pure ?_))|refine wpAny_bind (wpAny_typeNameOf_keyiter hit.typeIs (wpAny_pure ?_))
  refine wpAny_bind (wpAny_isOneOf_keyiter hit.typeIs ?_)
  show wpAny _ _ (setField (.ref it) 1 (rawInt ((i:Int)+1)) >>= _) _ _ s
  refine wpAny_bind (wpAny_setField ho hd (by simp) ?_)
  have Ho:(s.heap.update it (Obj.mapFields (·.setIfInBounds 1 (rawInt ((i:Int)+1))))).IsKeyIter it d (i+1) es.size ep :=
   ⟨_,Heap.get?_update_self _ ho (Obj.isFreed_of_fields (Obj.data_mapFields hd _)),(Obj.cls_mapFields ..).trans hc,by rw[Obj.data_mapFields hd];simp[rawInt]⟩
  refine wpAny_bind (wpAny_holding (wpAny_bind (wpAny_isOneOf_keyiter (s:={ s with heap:=s.heap.update it (Obj.mapFields (·.setIfInBounds 1 (rawInt ((i:Int)+1)))) }) Ho.typeIs ?_)))
  show wpAny _ _ (pure es[i].key) _ _ _
  exact wpAny_pure (wpAny_pure ⟨_,rfl,wpAny_pure (item hlt _ Ho (Heap.SameBut.update ..))⟩)
 ·obtain⟨hh,hQ⟩:=stop (by omega)
  simp only[show ¬((i:Int)<0) from by omega,if_false,Int.toNat_natCast,Array.getElem?_eq_none (show es.size<=i by omega)]
  refine wpAny_bind ?_
  first|refine wpAny_bind (wpAny_typeNameOfWhole_keyiter hit.typeIs (wpAny_pure ?_))|refine wpAny_bind (wpAny_typeNameOf_keyiter hit.typeIs (wpAny_pure ?_))
  show wpAny _ _ (setField (.ref it) 0 .none >>= _) _ _ s
  refine wpAny_bind (wpAny_setField ho hd (by simp) ?_)
  show wpAny _ _ (newExc (.type "StopIteration") [] >>= _) _ _ _
  refine wpAny_bind ?_
  simp only[newExc,newTuple]
  refine wpAny_bind (wpAny_newObj_type ?_ (by size_fits))
  refine wpAny_bind (m:=firstArgMember _ _) (wpAny_of_eq (a:=Value.none) (by first|rfl|(simp only[firstArgMember];rfl)) ?_)
  refine wpAny_newObj_type ?_ (by size_fits)
  simp only[raiseNew]
  refine wpAny_bind (wpAny_handled ?_)
  rw[show A.in1.handled=none from hh]
  refine wpAny_bind (wpAny_pure (wpAny_throw ?_))
  refine wpAny_bind (wpAny_isInstance (T:= "StopIteration") (b:=true) ⟨_,Heap.get?_push_size _ rfl,rfl⟩ isSubtype_stop ?_)
  exact wpAny_pure (hQ _ (((Heap.SameBut.update ..).extBut.push _).push _))
theorem GO(hh:A.handled=none)(I:Addr)(ne:d≠I):
  Walks P w A I [I,d] [I] es.size (λi v=>∃h:i<es.size,v=es[i].key) (λi h=>h.IsKeyIter I d i es.size ep/\Bw d es ep h) where
 sub:=λb hb=>by simp at hb;simp[hb]
 frame:=λ_ _ _ st hk=>⟨st.1.at λo e=>hk I (by simp) o e,st.2.mv λo e=>hk d (by simp) o e⟩
 item:=λi s Q E hi st hQ=>Cv st.1 st.2 (λhi h' Ho hs'=>hQ _ h' s.toks ⟨hi,rfl⟩ ⟨Ho,st.2.mv λo e=>hs'.extBut d o ne e⟩ λb o hb e=>hs'.extBut b o (λh=>hb (by simp[h])) e) λz=>absurd hi (by omega)
 done:=λs Q E st hQ=>Cv st.1 st.2 (λhi=>absurd hi (Nat.lt_irrefl _)) λ_=>⟨hh,λh' he'=>hQ h' s.toks λb o hb e=>he' b o (λh=>hb (by simp[h])) e⟩
 self:=λ_ _ _ _ st hQ=>wpAny_pyIter_keyiter st.1 hQ
theorem Lp(lo:(d==sysModules)=false):KdlSrc P w "dict" d d es.size (λi v=>∃h:i<es.size,v=es[i].key) (Bw d es ep) where
 type:=λ_ m=>m.ty
 there:=λ_ ⟨_,ho,_⟩=>⟨Heap.lt_size ho,Heap.lt_size ho⟩
 keep:=λ_ _ m hk=>m.mv λo e=>hk d (.inl rfl) o e
 notList:=by decide
 notTuple:=by decide
 hint:=λ_ _ _ _ m hq=>kdl_hint_dict m.ty hq
 iter:=λ_ s hh m=>⟨_,_,(λ_ _ hq=>IW lo m hq),GO hh _ (let ⟨_,ho,_⟩:=m;Nat.ne_of_lt (Heap.lt_size ho)),⟨⟨_,Heap.get?_push_size _ rfl,rfl,rfl⟩,m.mv λo e=>Heap.get?_push_of_some _ e⟩⟩
end
end L2
namespace L2
open PySem PySem.Spec PyProof.Rows PySem.W
abbrev NE:=NK×Addr×V
abbrev KN:List NE->List (NK×Addr×Value)->Prop:=Paired λp q=>p.1=q.1/\p.2.1=q.2.1/\RelV p.2.2 q.2.2
def jN(kvs:List NE)(k:NK):Option V:=(kvs.find? λx=>decide (x.1=k)).map (·.2.2)
def rU(kvs:List NE)(k:NK)(q:Addr)(v:V):List NE:=if(jN kvs k).isSome then kvs.map (λx=>if x.1=k then(x.1,x.2.1,v)else x)else kvs++[(k,q,v)]
theorem j5{p:NE}{ps:List NE}{k:NK}(e:p.1=k):jN (p::ps) k=some p.2.2:=by simp[jN,List.find?_cons,e]
theorem iH{p:NE}{ps:List NE}{k:NK}(e:¬p.1=k):jN (p::ps) k=jN ps k:=by simp[jN,List.find?_cons,e]
theorem KN.val{kvs:List NE}{xs:List (NK×Addr×Value)}(r:KN kvs xs)(k:NK):nh (jN kvs k) ((atKey xs k).map (·.2)):=by
 induction r with
 |nil=>exact True.intro
 | @cons p q ps qs h t ih =>
  obtain⟨h1,_,h2⟩:=h
  by_cases e:p.1=k
  ·have e':q.1=k:=h1.symm.trans e
   have b:atKey (q::qs) k=some q.2:=by simp[atKey,List.find?_cons,e']
   rw[j5 e,b];exact h2
  ·have e':¬q.1=k:=λz=>e (h1.trans z)
   have b:atKey (q::qs) k=atKey qs k:=by simp[atKey,List.find?_cons,e']
   rw[iH e,b];exact ih
theorem KN.put{kvs:List NE}{xs:List (NK×Addr×Value)}(r:KN kvs xs)(k:NK){b:Addr}{y:V}{u:Value}(ry:RelV y u):KN (rU kvs k b y) (storedH xs k b u):=by
 have e:(jN kvs k).isSome=(atKey xs k).isSome:=by rw[(r.val k).zM,Option.isSome_map]
 unfold rU storedH
 rw[e]
 by_cases q:(atKey xs k).isSome=true
 ·rw[if_pos q,if_pos q]
  clear e q
  induction r with
  |nil=>exact .nil
  | @cons p q ps qs h t ih =>
   rw[List.map_cons,List.map_cons]
   refine .cons ?_ ih
   obtain⟨h1,h2,h3⟩:=h
   unfold putAt
   by_cases e:p.1=k
   ·rw[if_pos e,if_pos (h1.symm.trans e)];exact⟨h1,h2,ry⟩
   ·rw[if_neg e,if_neg (λz=>e (h1.trans z))];exact⟨h1,h2,h3⟩
 ·rw[if_neg q,if_neg q];exact Paired.snoc r ⟨rfl,rfl,ry⟩
theorem xB(kvs:List NE)(k:NK)(q:Addr)(v:V):(rU kvs k q v).length<=kvs.length+1:=by
 unfold rU
 split
 ·rw[List.length_map];omega
 ·rw[List.length_append];exact Nat.le_refl _
theorem Jj{kvs:List NE}{k:NK}(h:jN kvs k=none)(q:Addr)(v:V):rU kvs k q v=kvs++[(k,q,v)]:=by unfold rU;rw[h];rfl
def QC(P:Program)(w:World)(a:Addr)(kvs:List NE)(h:Heap):Prop:=kvs.length<=sizeLine/\(a==sysModules)=false/\∃xs,KN kvs xs ∧
 ∃o es ep,h.get? a=some o/\o.ExactDict/\o.data= .dict es ep/\es.toList=xs.map (entryOfKey (lM P w))/\(xs.map (·.1)).Nodup
def AV(P:Program)(w:World)(a:Addr)(kvs:List NE):HO:=.ext (QC P w a kvs)
theorem MS{P:Program}{w:World}{H:Hp}{h:Heap}{a:Addr}{kvs:List NE}(e:QC P w a kvs h):bQ P w H h a (AV P w a kvs):=by
 obtain⟨z,lo,xs,r,o,es,ep,ho,c⟩:=e
 exact⟨⟨z,lo,xs,r,o,es,ep,ho,c⟩,⟨o,ho⟩,λh1 h2 ⟨z,lo,xs,r,o,es,ep,ho,c⟩ k=>⟨z,lo,xs,r,o,es,ep,k _ ho,c⟩⟩
def jj(H:Hp)(q:Addr)(k:NK):Prop:=∃p,H q=some (.tup [.ref p,.str k.2.2])/\H p=some (.tup [.int k.1,.int k.2.1])
structure ND(P:Program)(w:World)(H:Hp)(a:Addr)(kvs:List NE):Prop where
 at_:H a=some (AV P w a kvs)
 keys:∀x∈kvs,jj H x.2.1 x.1
theorem k_of{P:Program}{w:World}{H:Hp}{h:Heap}{q:Addr}{k:NK}(ok:mO P w H h)(e:jj H q k):(lM P w).is h k q:=by
 obtain⟨p,h1,h2⟩:=e
 obtain⟨_,its,r,o,g1,g2,n,g3⟩:=(show bQ P w H h q (.tup [.ref p,.str k.2.2]) from ok q _ h1)
 cases r with
 |cons r1 r =>
  cases r with
  |cons r2 r =>
   cases r
   cases r1
   obtain⟨t,rfl⟩:=(show ∃t,_=Value.str k.2.2 t from r2)
   exact⟨o,n,p,t,g1,g2,g3,xN (ks:=[.inl k.1,.inl k.2.1]) ok h2⟩
theorem ND.raw{P:Program}{w:World}{H:Hp}{h:Heap}{a:Addr}{kvs:List NE}(d:ND P w H a kvs)(ok:mO P w H h):kvs.length<=sizeLine/\(a==sysModules)=false/\∃xs,KN kvs xs/\h.DictOfH (lM P w) a xs:=by
 obtain⟨z,lo,xs,r,o,es,ep,ho,h2,h3,h4,h5⟩:=(ok a _ d.at_).1
 refine⟨z,lo,xs,r,o,es,ep,ho,h2,h3,h4,λx hx=>?_,h5⟩
 have all:∀{l:List NE} {m:List (NK×Addr×Value)},KN l m->(∀x∈l,jj H x.2.1 x.1)->∀x∈m,(lM P w).is h x.1 x.2.1:=by
  intro l m q
  induction q with
  |nil=>intro _ x hx;exact nomatch hx
  | @cons p q ps qs hq t ih =>
   intro hk x hx
   rcases List.mem_cons.mp hx with e|hx
   ·subst e
    rw[←hq.1,←hq.2.1]
    exact k_of ok (hk p List.mem_cons_self)
   ·exact ih (λy hy=>hk y (List.mem_cons_of_mem _ hy)) x hx
 exact all r d.keys x hx
section
variable{X:Cx}{pins:List (Addr×Obj)}{σ:St}{H:Hp}{s:Shared}{a q:Addr}{k:NK}{kvs:List NE}{v:V}{r:Value}{A:Around}{E:Value->Shared->Prop}
theorem G0{Q:Value->Shared->Prop}(hu:A.units+2<cLine)(I:Inv X pins σ H s)(d:ND X.prog X.w H a kvs)(hk:jj H q k)(l:jN kvs k=some v)(h:∀w' s',Inv X pins σ H s'->RelV v w'->Q w' s'):
  wpAny (model X.prog X.w) A (getItem (.ref a) (.ref q)) Q E s:=by
 obtain⟨z,hd,xs,rel,dd⟩:=d.raw I.hok
 obtain⟨w',hw,rw'⟩:=nh.some_of (v:=v) (o:=(atKey xs k).map (·.2)) (by rw[←l];exact rel.val k)
 obtain⟨p,hp,hp2⟩:=Option.map_eq_some_iff.mp hw
 refine wpAny_getItem_heap (show A.in1.units+1<cLine from hu) (k_of I.hok hk) dd hp ?_
 rw[hp2]
 exact h w' _ (I.tok _) rw'
theorem GZ{Q:Unit->Shared->Prop}(hu:A.units+2<cLine)(I:Inv X pins σ H s)(d:ND X.prog X.w H a kvs)(hk:jj H q k)(hl:kvs.length<sizeLine)(rv:RelV v r)(h:∀s',Inv X pins σ (upd H a (AV X.prog X.w a (rU kvs k q v))) s'->Q () s'):
  wpAny (model X.prog X.w) A (setItem (.ref a) (.ref q) r) Q E s:=by
 obtain⟨z,hd,xs,rel,dd⟩:=d.raw I.hok
 have hz:xs.length<=sizeLine:=by rw[←Paired.length rel];exact z
 have hl':(rU kvs k q v).length<=sizeLine:=by have:=xB kvs k q v;omega
 refine wpAny_setItem_heap (hsz:=hz) (show A.in1.units+1<cLine from hu) (k_of I.hok hk) dd λh' QZ hs=>h _ ?_
 obtain⟨o,es,ep,ho,h2,h3,h4,_,h5⟩:=QZ
 exact Bd I (by rw[d.at_];exact True.intro) hs ⟨o,ho⟩ (MS ⟨hl',hd,_,rel.put k rv,o,es,ep,ho,h2,h3,h4,h5⟩)
theorem Jm(I:Inv X pins σ H s)(d:ND X.prog X.w H a kvs):s.TypeIs (.ref a) "dict" :=by
 obtain⟨_,_,_,_,dd⟩:=d.raw I.hok
 exact dd.typeIs
end
def Ri(P:Program)(w:World)(td ty:TE):TE:=λσ H Q=>td σ H λx H1=>ty σ H1 λy H2=>∃a kvs k q v,x= .ref a/\y= .ref q/\ND P w H2 a kvs/\jj H2 q k/\jN kvs k=some v/\Q v H2
def Rz(P:Program)(w:World)(td ty tv:TE):TS:=λD σ H=>tv σ H λv H1=>td σ H1 λx H2=>ty σ H2 λy H3=>∃a kvs k q,x= .ref a/\y= .ref q/\ND P w H3 a kvs/\jj H3 q k/\kvs.length<sizeLine/\D.nx σ (upd H3 a (AV P w a (rU kvs k q v)))
def Rh(P:Program)(w:World):TE:=λ_ H Q=>∀p,H p=none->Q (.ref p) (upd H p (AV P w p []))
section
variable{X:Cx}{o i e value:Expr}{pos pos' tpos:Pos}{td ty tv:TE}{Pr:Program}{wo:World}
theorem jo(hu:X.A.units+2<cLine)(ho:PE X o td)(hi:PE X i ty)(hs:QB i)(hP:X.prog=Pr)(hw:X.w=wo):PE X (.Subscript o i pos) (Ri Pr wo td ty):=by
 subst hP hw
 intro pins s σ H Q I h
 refine wg PySem.F.slot_dict_getitem.lookup hs (fh (ho pins s σ H _ I h) λu s1 ⟨x,H1,I1,rx,q1⟩=>fh (hi pins s1 σ H1 _ I1 q1) λiv s2 ⟨y,H2,I2,ry,a,kvs,k,q,v,ex,ey,d,hk,l,q2⟩=>?_)
 subst ex ey
 obtain rfl:u=Value.ref a:=rx
 obtain rfl:iv=Value.ref q:=ry
 exact⟨Jm I2 d,G0 hu I2 d hk l λw' s3 I3 rw'=>⟨v,H2,I3,rw',q2⟩⟩
theorem Av(hu:X.A.units+2<cLine)(ho:PE X o td)(hi:PE X i ty)(hv:PE X value tv)(hs:swapsWith value (some (.Subscript o i pos')) pos.line X.env=pure false)(hP:X.prog=Pr)(hw:X.w=wo):
  PS X (.Assign [.Subscript o i pos'] value pos) (Rz Pr wo td ty tv):=by
 subst hP hw
 intro pins s σ H D I h
 refine wpAny_Assign_Subscript (fh (hv pins s σ H _ I h) λr s1 ⟨v,H1,I1,rv,q1⟩=>fh (ho pins s1 σ H1 _ I1 q1) λu s2 ⟨x,H2,I2,rx,q2⟩=>fh (hi pins s2 σ H2 _ I2 q2) λiv s3 ⟨y,H3,I3,ry,a,kvs,k,q,ex,ey,d,hk,hl,q3⟩=>?_) hs
 subst ex ey
 obtain rfl:u=Value.ref a:=rx
 obtain rfl:iv=Value.ref q:=ry
 exact GZ hu I3 d hk hl rv λs4 I4=>⟨σ,_,I4,q3⟩
theorem Pg{P:Program}{w:World}(h:Heap)(hb:sysModules<h.objs.size):QC P w h.objs.size [] (h.push { cls:=.type "dict",data:=.dict #[] }) :=
 ⟨Nat.zero_le _,beq_eq_false_iff_ne.mpr (Ne.symm (Nat.ne_of_lt hb)),[],.nil,_,#[],0,Heap.get?_push_size _ rfl,⟨rfl,rfl,rfl⟩,rfl,rfl,List.nodup_nil⟩
theorem AD(hP:X.prog=Pr)(hw:X.w=wo):PE X (.Dict [] [] pos) (Rh Pr wo):=by
 subst hP hw
 exact λpins s σ H Q I h=>wpAny_Dict_empty ⟨.ref s.heap.objs.size,_,I.laid (a:=s.heap.objs.size) (o:=AV X.prog X.w s.heap.objs.size []) (t':=s.toks) (λ_ _ q=>Heap.get?_push_of_some _ q) (Nat.le_refl _) (MS (Pg s.heap I.big)),rfl,h _ (I.hok.fresh (Nat.le_refl _))⟩
theorem tQ(JP:X.calm=true)(hP:X.prog=Pr)(hw:X.w=wo):lP X (.type "list") (λxs H Q=>∃a kvs,xs=[.ref a]/\ND Pr wo H a kvs/\∀l,H l=none->Q (.ref l) (upd H l (.lst (kvs.map λx=>.ref x.2.1)))):=by
 subst hP hw
 intro pins s σ H xs us Q I r h
 obtain⟨a,kvs,rfl,d,q⟩:=h
 obtain⟨u,rfl,rx⟩:=vals1 r
 cases rx
 obtain⟨z,lo,xs,rel,o,es,ep,h1,h2,h3,h4,_⟩:=d.raw I.hok
 have hes:es.size=xs.length:=size_of_entries h4
 have hlk:=Paired.length rel
 refine TK.bY (Nat.le_refl _) (kdl_call (Lp (es:=es) (ep:=ep) lo) (I.ok.hd JP) ⟨o,h1,h2,h3⟩ (by omega) λh' tk acc c kp hS hacc hup=>?_)
 refine⟨.ref s.heap.objs.size,_,I.laid (t':=tk) kp (Nat.le_refl _) (show bQ X.prog X.w _ h' _ (.lst (kvs.map λx=>.ref x.2.1)) from⟨by rw[List.length_map];exact z,acc.toList,c,?_,by rw[Array.toArray_toList];exact hS⟩) hup,rfl,q _ (I.hok.fresh (Nat.le_refl _))⟩
 have hz:acc.size=kvs.length:=by rw[hacc.1];omega
 refine GP.ux (by rw[List.length_map];simp[hz]) λi x y hx hy=>?_
 rw[List.getElem?_map]at hx
 obtain⟨e,he,rfl⟩:=Option.map_eq_some_iff.mp hx
 rw[Array.getElem?_toList]at hy
 obtain⟨hi,rfl⟩:=hacc.2 i y hy
 obtain⟨x',hx',h5⟩:=GP.Paired.at rel he
 have:=entry_at h4 i
 rw[hx',Array.getElem?_eq_getElem hi]at this
 injection this with this
 rw[this]
 show Value.ref x'.2.1=Value.ref e.2.1
 rw[h5.2.1]
end
end L2
namespace L2
open PySem PySem.Spec PyProof.Rows PySem.W
section
variable{prog:Program}{w:World}{A:Around}{E:Value->Shared->Prop}{s:Shared}{q:Addr}
def Mz(kf:Nat->Int)(n i:Nat):Prop:=∀j,j<n->kf i<=kf j/\(j<i->kf i<kf j)
theorem xH{h h':Heap}{l:Addr}{its:Array Value}(k:∀b o,h.get? b=some o->h'.get? b=some o)(x:h.IsList l its):h'.IsList l its:=by
 obtain⟨o,e,r⟩:=x
 exact⟨o,k _ _ e,r⟩
variable{g:Heap}{l I S:Addr}{vs:List Value}{R:Result->Shared->Prop}
theorem Jr(kf:Nat->Int)(hh:A.handled=none)(hl:g.IsList l vs.toArray)(hI:g.get? I=none)(hS:g.get? S=none)(hSI:S≠I)
  (turn:∀i v h tk (Q:Value->Shared->Prop),vs[i]? =some v->(∀b o,g.get? b=some o->h.get? b=some o)->(∀h' tk' t,(∀b o,h.get? b=some o->h'.get? b=some o)->Q (.int (kf i) t) { s with heap:=h',toks:=tk' }) →
   wpAny (model prog w) A.in1 (call (.ref q) [v]) Q (λ_ _=>False) { s with heap:=h,toks:=tk })
  (hR:∀i v h' tk',vs[i]? =some v->Mz kf vs.length i->(∀b o,g.get? b=some o->h'.get? b=some o)->R (.ok (.ret v)) { s with heap:=h',toks:=tk' }) :
  ∀(r j i:Nat) (h:Heap) (tk:Nat) (vb:Value) (tb:Tok) (c:Nat),vs.length-(j+1)=r->j+1<=vs.length->(∀b o,g.get? b=some o->h.get? b=some o)->h.get? S=some (seqObj "list" #[vb,.int (kf i) tb] c) →
   h.IsListIter I l (j+1)->vs[i]? =some vb->i<=j->Mz kf (j+1) i →
   codeAny (model prog w) A (.builtin "min.loop" ⟨[.ref I,.ref q,.ref S],[]⟩) R { s with heap:=h,toks:=tk }:=by
 have nm:(toString "min" ++toString ".loop" :String)= "min.loop" :=by decide
 obtain⟨ol,JM,rl⟩:=id hl
 have lI:l≠I:=λz=>by rw[z,hI]at JM;cases JM
 have W:=Walks.list (prog:=prog) (w:=w) (A:=A.in1) hh I l lI vs.toArray
 have sz:vs.toArray.size=vs.length:=by simp
 have nI:∀b o,g.get? b=some o->b∉[I]:=λb o e z=>by rw[List.mem_singleton.mp z,hI]at e;cases e
 have nS:∀b o,g.get? b=some o->b≠S:=λb o e z=>by rw[z,hS]at e;cases e
 intro r
 induction r with
 |zero =>
  intro j i h tk vb tb c hr hj kp gS hit Xs hij hb
  have en:j+1=vs.length:=by omega
  refine codeAny_builtin PySem.F.entry_min_loop ?_
  rw[Around.under_plainId PySem.F.plain_min_loop _]
  show wpAny _ A.in1 (seqItems? (.ref S) >>= _) _ _ _
  refine wpAny_bind (wpAny_seqItems gS rfl ?_)
  show wpAny _ A.in1 (tryCatch (pyNext (.ref I)) _ >>= _) _ _ _
  refine wpAny_bind (wpAny_tryCatch (W.done _ _ _ ⟨by rw[sz,←en];exact hit,xH kp hl⟩ λh1 ME hk1=>?_))
  have Te:=hk1 S _ (by simpa using hSI) gS
  show wpAny _ A.in1 (updateSeq S (λ_=> #[]) >>= _) _ _ _
  refine wpAny_bind ?_
  refine wpAny_updateSeq Te rfl (wpAny_bind (wpAny_letGo (wpAny_pure ?_)))
  refine hR i vb _ _ Xs (by rw[←en];exact hb) λb o e=>?_
  rw[(Heap.SameBut.update h1 S _).2 b (nS b o e)]
  exact hk1 b o (nI b o e) (kp b o e)
 |succ r ih =>
  intro j i h tk vb tb c hr hj kp gS hit Xs hij hb
  have lt:j+1<vs.length:=by omega
  refine codeAny_builtin PySem.F.entry_min_loop ?_
  rw[Around.under_plainId PySem.F.plain_min_loop _]
  show wpAny _ A.in1 (seqItems? (.ref S) >>= _) _ _ _
  refine wpAny_bind (wpAny_seqItems gS rfl ?_)
  show wpAny _ A.in1 (tryCatch (pyNext (.ref I)) _ >>= _) _ _ _
  refine wpAny_bind (wpAny_tryCatch (W.item (j+1) _ _ _ (by rw[sz];exact lt) ⟨hit,xH kp hl⟩ λv h1 ME hP hst hk1=>?_))
  have hv:vs[j+1]? =some v:=by simpa using hP
  have JE:∀b o,g.get? b=some o->h1.get? b=some o:=λb o e=>hk1 b o (nI b o e) (kp b o e)
  have Te:=hk1 S _ (by simpa using hSI) gS
  obtain⟨oI,Ux,rI⟩:=id hst.1
  show wpAny _ A.in1 (tryCatch (holding [v] (call (.ref q) [v])) _ >>= _) _ _ _
  refine wpAny_bind (wpAny_tryCatch (wpAny_holding (wpAny_mono (turn (j+1) v h1 ME (λu s'=>∃h2 Lc t2,u= .int (kf (j+1)) t2/\s'={ s with heap:=h2,toks:=Lc }/\∀b o,h1.get? b=some o->h2.get? b=some o) hv JE λh2 Lc t2 k2=>⟨h2,Lc,t2,rfl,rfl,k2⟩) (λu s' hu=>?_) λ_ _ z=>z.elim)))
  obtain⟨h2,Lc,t2,rfl,rfl,k2⟩:=hu
  have Zx:∀b o,g.get? b=some o->h2.get? b=some o:=λb o e=>k2 b o (JE b o e)
  have QY:=k2 _ _ Te
  have X0:h2.IsListIter I l (j+1+1):=⟨oI,k2 _ _ Ux,rI⟩
  show wpAny _ A.in1 (tryCatch (holding [v,.int (kf (j+1)) t2] (richCompare .Lt (.int (kf (j+1)) t2) (.int (kf i) tb) >>= _)) _ >>= _) _ _ _
  refine wpAny_bind (wpAny_tryCatch (wpAny_holding (wpAny_bind (CmpOf.ints_lt (prog:=prog) (w:=w) (A:=A.in1) (P:=λi v=>∃t,v= .int (kf i) t) kf (λi v h=>h) (j+1) i _ _ _ _ _ ⟨t2,rfl⟩ ⟨tb,rfl⟩ ?_))))
  refine wpAny_bind (wpAny_holding (wpAny_truthy_bool ?_))
  refine wpAny_bind (wpAny_letGo (wpAny_pure ?_))
  by_cases gt:kf (j+1)<kf i
  ·obtain⟨c2,hc2⟩:∃c2,(h2.update S (Obj.mapSeq λ_=> #[v,.int (kf (j+1)) t2])).get? S=some (seqObj "list" #[v,.int (kf (j+1)) t2] c2):=⟨_,get?_update_seq QY λ_=> #[v,.int (kf (j+1)) t2]⟩
   have gt':kf (j+1)<kf i:=gt
   simp only[gt',decide_true,if_true]
   refine wpAny_bind ?_
   refine wpAny_updateSeq QY rfl (wpAny_bind (wpAny_letGo ?_))
   rw[nm]
   refine wpAny_pure ⟨plainId_quiet PySem.F.plain_min_loop _,ih (j+1) (j+1) _ _ v t2 c2 (by omega) lt (λb o e=>?_) hc2 ?_ hv (Nat.le_refl _) λj' hj'=>?_⟩
   ·rw[(Heap.SameBut.update h2 S _).2 b (nS b o e)]
    exact Zx b o e
   ·exact⟨oI,((Heap.SameBut.update h2 S _).2 I hSI.symm).trans (k2 _ _ Ux),rI⟩
   ·by_cases e:j'=j+1
    ·subst e
     exact⟨by omega,λ_=>by omega⟩
    ·have b1:=hb j' (by omega)
     exact⟨by omega,λ_=>by omega⟩
  ·have gt':¬kf (j+1)<kf i:=gt
   simp only[gt',decide_false,Bool.false_eq_true,if_false]
   refine wpAny_bind (wpAny_letGo ?_)
   rw[nm]
   refine wpAny_pure ⟨plainId_quiet PySem.F.plain_min_loop _,ih (j+1) i _ _ vb tb c (by omega) lt Zx QY X0 Xs (by omega) λj' hj'=>?_⟩
   by_cases e:j'=j+1
   ·subst e
    exact⟨by omega,λ_=>by omega⟩
   ·exact hb j' (by omega)
theorem HB{Q:Value->Shared->Prop}(kf:Nat->Int)(hh:A.handled=none)(hl:s.heap.IsList l vs.toArray)
  (turn:∀i v h tk (Q:Value->Shared->Prop),vs[i]? =some v->(∀b o,s.heap.get? b=some o->h.get? b=some o)->(∀h' tk' t,(∀b o,h.get? b=some o->h'.get? b=some o)->Q (.int (kf i) t) { s with heap:=h',toks:=tk' }) →
   wpAny (model prog w) A.in1 (call (.ref q) [v]) Q (λ_ _=>False) { s with heap:=h,toks:=tk })
  (hne:0<vs.length)
  (h1:∀i v h' tk',vs[i]? =some v->Mz kf vs.length i->(∀b o,s.heap.get? b=some o->h'.get? b=some o)->Q v { s with heap:=h',toks:=tk' }) :
  wpAny (model prog w) A (call (.builtin "min") [.ref l] [(Str.ofString "key",.ref q)]) Q E s:=by
 have nm:(toString "min" ++toString ".loop" :String)= "min.loop" :=by decide
 obtain⟨ol,JM,rl⟩:=id hl
 have lt:l<s.heap.objs.size:=Heap.lt_size JM
 refine kmk_tree PySem.F.kind_min PySem.F.plain_min PySem.F.entry_min (kmk_min_key _ _) ?_
 show wpAny _ A.in1 (Builtin.Builtins.bindParams "min" ["key","default"] 0 ⟨[],[(Str.ofString "key",.ref q)]⟩ >>= _) _ _ s
 refine wpAny_bind (wpAny_of_eq (show Builtin.Builtins.bindParams "min" ["key","default"] 0 ⟨[],[(Str.ofString "key",.ref q)]⟩=pure [some (.ref q),none] from rfl) ?_)
 refine wpAny_bind (wpAny_pure ?_)
 refine wpAny_bind (wpAny_pyIter_list hl ?_)
 refine wpAny_bind (wpAny_newList ?_ (Nat.zero_le _))
 rw[nm]
 have sI:(s.heap.push { cls:=.type "list_iterator",data:=.fields #[.ref l,.int 0 0] }).objs.size=s.heap.objs.size+1:=size_push' ..
 have hI:s.heap.get? s.heap.objs.size=none:=Heap.get?_none_of_le (Nat.le_refl _)
 have hS:s.heap.get? (s.heap.push { cls:=.type "list_iterator",data:=.fields #[.ref l,.int 0 0] }).objs.size=none:=by rw[sI];exact Heap.get?_none_of_le (Nat.le_succ _)
 have hSI:(s.heap.push { cls:=.type "list_iterator",data:=.fields #[.ref l,.int 0 0] }).objs.size≠s.heap.objs.size:=by rw[sI];exact Nat.ne_of_gt (Nat.lt_succ_self _)
 refine wpAny_pure ⟨plainId_quiet PySem.F.plain_min_loop _,?_⟩
 have Zy:∀b o,s.heap.get? b=some o->((s.heap.push { cls:=.type "list_iterator",data:=.fields #[.ref l,.int 0 0] }).push (seqObj "list" #[] 0)).get? b=some o:=λb o e=>Heap.get?_push_of_some _ (Heap.get?_push_of_some _ e)
 have gI:((s.heap.push { cls:=.type "list_iterator",data:=.fields #[.ref l,.int 0 0] }).push (seqObj "list" #[] 0)).get? s.heap.objs.size=some { cls:=.type "list_iterator",data:=.fields #[.ref l,.int 0 0] } :=
  Heap.get?_push_of_some _ (Heap.get?_push_size _ rfl)
 have gS:((s.heap.push { cls:=.type "list_iterator",data:=.fields #[.ref l,.int 0 0] }).push (seqObj "list" #[] 0)).get? (s.heap.push { cls:=.type "list_iterator",data:=.fields #[.ref l,.int 0 0] }).objs.size=some (seqObj "list" #[] 0):=Heap.get?_push_size _ rfl
 generalize (s.heap.push { cls:=.type "list_iterator",data:=.fields #[.ref l,.int 0 0] }).objs.size=S at hS hSI gS ⊢
 generalize hIe:s.heap.objs.size=I at hI hSI gI ⊢
 have lI:l≠I:=λz=>by rw[z,hI]at JM;cases JM
 have W:=Walks.list (prog:=prog) (w:=w) (A:=A.in1) hh I l lI vs.toArray
 have sz:vs.toArray.size=vs.length:=by simp
 have nI:∀b o,s.heap.get? b=some o->b∉[I]:=λb o e z=>by rw[List.mem_singleton.mp z,hI]at e;cases e
 have nS:∀b o,s.heap.get? b=some o->b≠S:=λb o e z=>by rw[z,hS]at e;cases e
 refine codeAny_builtin PySem.F.entry_min_loop ?_
 rw[Around.under_plainId PySem.F.plain_min_loop _]
 show wpAny _ A.in1 (seqItems? (.ref _) >>= _) _ _ _
 refine wpAny_bind (wpAny_seqItems gS rfl ?_)
 show wpAny _ A.in1 (tryCatch (pyNext (.ref I)) _ >>= _) _ _ _
 have ne:=hne
 refine wpAny_bind (wpAny_tryCatch (W.item 0 _ _ _ (by rw[sz];exact ne) ⟨⟨_,gI,rfl,rfl⟩,xH Zy hl⟩ λv pL ME hP hst hk1=>?_))
 have hv:vs[0]? =some v:=by simpa using hP
 have JE:∀b o,s.heap.get? b=some o->pL.get? b=some o:=λb o e=>hk1 b o (nI b o e) (Zy b o e)
 have Te:=hk1 S _ (by simpa using hSI) gS
 obtain⟨oI,Ux,rI⟩:=id hst.1
 show wpAny _ A.in1 (tryCatch (holding [v] (call (.ref q) [v])) _ >>= _) _ _ _
 refine wpAny_bind (wpAny_tryCatch (wpAny_holding (wpAny_mono (turn 0 v pL ME (λu s'=>∃h2 Lc t2,u= .int (kf 0) t2/\s'={ s with heap:=h2,toks:=Lc }/\∀b o,pL.get? b=some o->h2.get? b=some o) hv JE λh2 Lc t2 k2=>⟨h2,Lc,t2,rfl,rfl,k2⟩) (λu s' hu=>?_) λ_ _ z=>z.elim)))
 obtain⟨h2,Lc,t2,rfl,rfl,k2⟩:=hu
 have QY:=k2 _ _ Te
 obtain⟨c2,hc2⟩:∃c2,(h2.update S (Obj.mapSeq λ_=> #[v,.int (kf 0) t2])).get? S=some (seqObj "list" #[v,.int (kf 0) t2] c2):=⟨_,get?_update_seq QY λ_=> #[v,.int (kf 0) t2]⟩
 show wpAny _ A.in1 (updateSeq S (λ_=> #[v,.int (kf 0) t2]) >>= _) _ _ _
 refine wpAny_bind ?_
 refine wpAny_updateSeq QY rfl ?_
 rw[nm]
 refine wpAny_pure ⟨plainId_quiet PySem.F.plain_min_loop _,Jr kf hh hl hI hS hSI turn (λi v h' tk' a b c=>h1 i v h' tk' a b c) _ 0 0 _ _ v t2 c2 rfl ne (λb o e=>?_) hc2 ?_ hv (Nat.le_refl _) λj' hj'=>?_⟩
 ·rw[(Heap.SameBut.update h2 S _).2 b (nS b o e)]
  exact k2 b o (JE b o e)
 ·exact⟨oI,((Heap.SameBut.update h2 S _).2 I hSI.symm).trans (k2 _ _ Ux),rI⟩
 ·have e:j'=0:=by omega
  subst e
  exact⟨by omega,λz=>absurd z (Nat.lt_irrefl _)⟩
end
def yh(h:Heap)(q:Addr)(qual:Str)(ps:Arguments)(body:Expr)(sc:Scope)(cl:List (Str×Addr)):Prop :=
 ∃pm c' ctv,h.get? q=some (kla_obj "<lambda>" qual ps body sc cl pm c' ctv)/\h.CodeRec (.ref c') qual
theorem qJ{h h':Heap}{c:Addr}{q:Str}(k:∀b o,h.get? b=some o->h'.get? b=some o)(x:h.CodeRec (.ref c) q):h'.CodeRec (.ref c) q:=by
 obtain⟨c₂,o,vs,t,e,e1,e2⟩:=x
 exact⟨c₂,o,vs,t,e,k _ _ e1,e2⟩
theorem yh.keep{h h':Heap}{q:Addr}{qual:Str}{ps:Arguments}{body:Expr}{sc:Scope}{cl:List (Str×Addr)}(k:∀b o,h.get? b=some o->h'.get? b=some o)(x:yh h q qual ps body sc cl):yh h' q qual ps body sc cl:=by
 obtain⟨pm,c',ctv,e,r⟩:=x
 exact⟨pm,c',ctv,k _ _ e,qJ k r⟩
structure Gz(ps:Arguments)(body:Expr)(sc:Scope)(x r:Str):Prop where
 bind:∀(qual:Str) (cl:List (Str×Addr)) (pm cdv ct v:Value),bindArgs (kla_fn "<lambda>" qual ps body sc cl pm cdv ct) ⟨[v],[]⟩=pure [(x,v)]
 loc:sc.names.lookup x=some .local
 free:sc.names.lookup r=some .free
 cell:∀x∈sc.names,x.2≠ .cell
 kind:sc.kind= .function
 co:sc.isCoroutine=false
 gen:sc.isGenerator=false
 dx:(x==("__debug__" :Str))=false
 dr:(r==("__debug__" :Str))=false
 dc:(r==("__classdict__" :Str))=false
structure Nm(P:Program)(w:World)(h:Heap)(A:Around)(env:Env)(x r:Str)(v rv:Value):Prop where
 x:∀(p:Pos) (s:Shared) (Q:Value->Shared->Prop) (E:Value->Shared->Prop),(∀b o,h.get? b=some o->s.heap.get? b=some o)->Q v s->wpAny (model P w) A (eval (.Name x p) env) Q E s
 r:∀(p:Pos) (s:Shared) (Q:Value->Shared->Prop) (E:Value->Shared->Prop),(∀b o,h.get? b=some o->s.heap.get? b=some o)->Q rv s->wpAny (model P w) A (eval (.Name r p) env) Q E s
section
variable{prog:Program}{w:World}{A:Around}{E:Value->Shared->Prop}{s:Shared}{q c:Addr}{qual x r:Str}{ps:Arguments}{body:Expr}{sc:Scope}
theorem G9{v rv:Value}{Q:Value->Shared->Prop}(hl:yh s.heap q qual ps body sc [(r,c)])(T:Gz ps body sc x r)(hc:s.heap.IsCell c (some rv))(hlim:s.heap.NoLimit)(hroom:A.depth<recursionLimit)
  (h:∀(env:Env) (A':Around) h1 ME (E':Value->Shared->Prop),A'.units=A.units+3->(∀b o,s.heap.get? b=some o->h1.get? b=some o)->Nm prog w h1 A' env x r v rv->wpAny (model prog w) A' (eval body env) Q E' { s with heap:=h1,toks:=ME }) :
  wpAny (model prog w) A (call (.ref q) [v]) Q E s:=by
 obtain⟨pm,c',ctv,ho,hr⟩:=hl
 refine wpAny_call (kla_callFunE hroom ho rfl T.co T.gen rfl hr ?_)
 rw[T.bind]
 refine wpAny_pure (wpAny_newFunctionEnv T.cell (λy hy=>by rw[List.mem_singleton.mp hy];exact T.loc) (λh₁ hns SH=>⟨hlim.fresh _ SH,?_⟩) T.kind)
 have kp:∀b o,s.heap.get? b=some o->h₁.get? b=some o:=λb o e=>SH.extBut b o (Nat.ne_of_lt (Heap.lt_size e)) (Heap.get?_push_of_some _ e)
 refine kla_codeExpr (h _ _ h₁ _ _ rfl kp ⟨λp s1 Q1 E1 k1 hQ=>?_,λp s1 Q1 E1 k1 hQ=>?_⟩)
 ·refine wpAny_Name (wpAny_loadName_local T.kind T.loc (hns.keeps k1) (v:=v) ?_ hQ) T.dx
  show List.lookup x [(x,v)]=some v
  simp[List.lookup]
 ·obtain⟨o,g1,g2⟩:=hc
  refine wpAny_Name (wpAny_loadName_free T.kind T.free (c:=c) (v:=rv) ?_ ⟨o,k1 _ _ (kp _ _ g1),g2⟩ hQ T.dc) T.dr
  show List.lookup r [(r,c)]=some c
  simp[List.lookup]
end
end L2
namespace L2
open PySem PySem.Spec PyProof.Rows PySem.W
theorem pJ.ext{P:Program}{w:World}{h h':Heap}{k:NK}{a:Addr}(e:∀b o,h.get? b=some o->h'.get? b=some o)(x:pJ P w h k a):pJ P w h' k a:=by
 obtain⟨o,n,p,t,ho,hc,hd,o2,its,n2,ho2,r⟩:=x
 exact⟨o,n,p,t,e _ _ ho,hc,hd,o2,its,n2,e _ _ ho2,r⟩
theorem Dr{P:Program}{w:World}{h h':Heap}{d:Addr}{xs:List (NK×Addr×Value)}(e:∀b o,h.get? b=some o->h'.get? b=some o)(x:h.DictOfH (lM P w) d xs):h'.DictOfH (lM P w) d xs:=by
 obtain⟨o,es,ep,ho,h2,h3,h4,h5,h6⟩:=x
 exact⟨o,es,ep,e _ _ ho,h2,h3,h4,λy hy=>(h5 y hy).ext e,h6⟩
def KV1(P:Program)(w:World)(H:Hp)(v rv:V)(k:Int):Prop:=∃p d kvs i j,v= .ref p/\H p=some (.tup [.int i,.int j])/\rv= .ref d/\ND P w H d kvs/\jN kvs (i,j,Str.ofString "p")=some (.int k)
def KV2(P:Program)(w:World)(H:Hp)(v rv:V)(k:Int):Prop:=∃p d q kvs ky c r,v= .ref p/\H p=some (.tup [.ref q,.int c])/\jj H q ky/\rv= .ref d/\ND P w H d kvs/\jN kvs ky=some (.int r)/\k=c+r
def Fd(ps:Arguments)(body:Expr)(sc:Scope)(x r:Str)(KV:Program->World->Hp->V->V->Int->Prop):Prop :=
 Gz ps body sc x r/\∀(P:Program) (w:World) (H:Hp) (v rv:V) (k:Int) (u ru:Value) (s:Shared) (h:Heap) (tk:Nat) (A:Around) (env:Env) (Q:Value->Shared->Prop) (E:Value->Shared->Prop),
  KV P w H v rv k->RelV v u->RelV rv ru->mO P w H h->A.units+2<cLine->Nm P w h A env x r u ru →
  (∀h' tk' t,(∀b o,h.get? b=some o->h'.get? b=some o)->Q (.int k t) { s with heap:=h',toks:=tk' })->wpAny (model P w) A (eval body env) Q E { s with heap:=h,toks:=tk }
theorem LR {ps:Arguments} {sc:Scope} {x r:Str} {p1 p2 p3 p4 p5:Pos} {j k:Nat} (T:Gz ps (.Subscript (.Name r p1) (.Tuple [.Name x p2,.Constant (.str "p") j p3] k p4) p5) sc x r) :
  Fd ps (.Subscript (.Name r p1) (.Tuple [.Name x p2,.Constant (.str "p") j p3] k p4) p5) sc x r KV1:=by
 refine⟨T,λP w H v rv ky u ru s h tk A env Q E kv rx rr ok hu L hQ=>?_⟩
 obtain⟨p,d,kvs,a,b,rfl,hp,rfl,nd,hv⟩:=kv
 cases rx
 cases rr
 obtain⟨_,_,xs,rel,dd⟩:=nd.raw ok
 obtain⟨w',hw,t',rfl⟩:=nh.some_of (v:=.int ky) (o:=(atKey xs (a,b,Str.ofString "p")).map (·.2)) (by rw[←hv];exact rel.val _)
 obtain⟨y,hy,Sz⟩:=Option.map_eq_some_iff.mp hw
 refine wg PySem.F.slot_dict_getitem.lookup (λ_ _=>rfl) (L.r _ _ _ _ (λ_ _ e=>e) (wpAny_Tuple_spliced ?_))
 show wpAny _ _ (spliced ((false,eval (.Name x p2) env)::backTo p4 (starEach [.Constant (.str "p") j p3] env))) _ _ _
 refine Calls.spliced_cons (L.x _ _ _ _ (λ_ _ e=>e) ?_)
 show wpAny _ _ (spliced ((false,eval (.Constant (.str "p") j p3) env)::backTo p4 (starEach [] env))) _ _ _
 refine Calls.spliced_cons (Calls.Constant_str (Calls.spliced_nil ⟨by show 2<=sizeLine;decide,?_⟩))
 have ext:∀b o,h.get? b=some o->(h.push { cls:=.type "tuple",data:=.seq [Value.ref p,Value.str "p" tk].toArray }).get? b=some o:=λb o e=>Heap.get?_push_of_some _ e
 refine⟨(Dr ext dd).typeIs (s:={ s with heap:=_,toks:=_ }),?_⟩
 refine wpAny_getItem_heap (knd:=lM P w) (k:=(a,b,Str.ofString "p")) (show A.in1.units+1<cLine from hu) ?_ (Dr ext dd) hy ?_
 ·exact⟨_,_,p,_,Heap.get?_push_size _ rfl,rfl,rfl,(xN (ks:=[.inl a,.inl b]) (ok.kept ext) hp)⟩
 ·rw[Sz]
  exact hQ _ _ t' ext
theorem LQ{ps:Arguments}{sc:Scope}{x r:Str}{p1 p2 p3 p4 p5 p6 p7 p8 p9:Pos}{j1 j2:Nat}(T:Gz ps (.BinOp (.Subscript (.Name x p1) (.Constant (.int 1) j1 p2) p3) .Add (.Subscript (.Name r p4) (.Subscript (.Name x p5) (.Constant (.int 0) j2 p6) p7) p8) p9) sc x r):
  Fd ps (.BinOp (.Subscript (.Name x p1) (.Constant (.int 1) j1 p2) p3) .Add (.Subscript (.Name r p4) (.Subscript (.Name x p5) (.Constant (.int 0) j2 p6) p7) p8) p9) sc x r KV2:=by
 refine⟨T,λP w H v rv ky u ru s h tk A env Q E kv rx rr ok hu L hQ=>?_⟩
 obtain⟨p,d,q,kvs,key,c,n,rfl,hp,hk,rfl,nd,hv,rfl⟩:=kv
 cases rx
 cases rr
 obtain⟨_,_,xs,rel,dd⟩:=nd.raw ok
 obtain⟨w',hw,t',rfl⟩:=nh.some_of (v:=.int n) (o:=(atKey xs key).map (·.2)) (by rw[←hv];exact rel.val _)
 obtain⟨y,hy,Sz⟩:=Option.map_eq_some_iff.mp hw
 obtain⟨_,its,rv,o,g1,g2,m,g3⟩:=(show bQ P w H h p (.tup [.ref q,.int c]) from ok p _ hp)
 cases rv with
 |cons r1 rv =>
 cases rv with
 |cons r2 rv =>
 cases rv
 cases r1
 obtain⟨tc,rfl⟩:=(show ∃t,_=Value.int c t from r2)
 have hT:∀t,({ s with heap:=h,toks:=t }:Shared).TypeIs (.ref p) "tuple" :=λt=>⟨o,g1,g2⟩
 refine wpAny_BinOp (Subscript_ (L.x _ _ _ _ (λ_ _ e=>e) (wpAny_Constant_int ?_)))
 refine subscriptTail_builtinR (T:= "tuple") (x:=.int c tc) (hT _) slot_tuple_getitem.lookup (getItem_tuple (j:=1) (items:= #[.ref q,.int c tc]) ⟨o,g1,g2,m,g3⟩ (by omega) (by omega) (by rfl) (by rfl) ⟨rfl,?_⟩) (by with_unfolding_all rfl)
 refine wg PySem.F.slot_dict_getitem.lookup (λ_ _=>rfl) (L.r _ _ _ _ (λ_ _ e=>e) (Subscript_ (L.x _ _ _ _ (λ_ _ e=>e) (wpAny_Constant_int ?_))))
 refine subscriptTail_builtinR (T:= "tuple") (x:=.ref q) (hT _) slot_tuple_getitem.lookup (getItem_tuple (j:=0) (items:= #[.ref q,.int c tc]) ⟨o,g1,g2,m,g3⟩ (by omega) (by omega) (by rfl) (by rfl) ⟨rfl,?_⟩) (by with_unfolding_all rfl)
 refine⟨dd.typeIs (s:={ s with heap:=h,toks:=_ }),wpAny_getItem_heap (knd:=lM P w) (k:=key) (show A.in1.units+1<cLine from hu) (k_of ok hk) dd hy ?_⟩
 rw[Sz]
 exact add_int (hQ _ _ _ λ_ _ e=>e)
end L2
namespace L2
open PySem PySem.Spec PyProof.Rows
def nV(P:Addr)(ps:Array Value):HO:=.ext λh=>h.get? P=some (PySem.W.tabObj ps)
def Nf(c:Addr)(q:Str):HO:=.ext λh=>h.CodeRec (.ref c) q
def TabOk(H:Hp)(P:Addr)(ln:Pos)(q:Str):Prop:=H P=some (nV P #[])\/∃c',H P=some (nV P #[rawInt ln.line,rawInt ln.col,.ref c'])/\H c'=some (Nf c' q)
def Nq(base:Heap)(mg:Str->Option Value):Prop:=∃bm ob,mg "__builtins__" =some (.ref bm)/\bm≠builtinsNs/\base.get? bm=some ob/\ob.cls= .type "module" /\ob.dict=some builtinsNs/\ob.data= .plain
theorem Fv{Pr:Program}{w:World}{H:Hp}{h:Heap}{P:Addr}{ps:Array Value}(e:h.get? P=some (PySem.W.tabObj ps)):bQ Pr w H h P (nV P ps):=⟨e,⟨_,e⟩,λ_ _ a k=>k _ a⟩
theorem Qs{Pr:Program}{w:World}{H:Hp}{h:Heap}{c:Addr}{q:Str}(e:h.CodeRec (.ref c) q):bQ Pr w H h c (Nf c q):=by
 refine⟨e,?_,λh1 h2 a k=>?_⟩
 ·obtain⟨c₂,o,vs,t,e0,e1,_⟩:=e
  cases e0
  exact⟨o,e1⟩
 ·obtain⟨c₂,o,vs,t,e0,e1,e2⟩:=a
  cases e0
  exact⟨c,o,vs,t,rfl,k _ e1,e2⟩
section
variable{X:Cx}{pins:List (Addr×Obj)}{σ:St}{H:Hp}{s:Shared}
theorem Inv.tab(I:Inv X pins σ H s){P:Addr}{ps:Array Value}(e:H P=some (nV P ps)):s.heap.get? P=some (PySem.W.tabObj ps):=(I.hok P _ e).1
theorem Inv.cd(I:Inv X pins σ H s){c:Addr}{q:Str}(e:H c=some (Nf c q)):s.heap.CodeRec (.ref c) q:=(I.hok c _ e).1
theorem Inv.OM(I:Inv X pins σ H s){P c:Addr}{ps ps':Array Value}{q:Str}{h' h2:Heap}{t':Nat}(e:H P=some (nV P ps))(hx:Heap.ExtBut P s.heap h')(hc:s.heap.objs.size<=c)(hr:h'.CodeRec (.ref c) q)(ht:h'.get? P=some (PySem.W.tabObj ps'))
  (k2:∀b o,h'.get? b=some o->h2.get? b=some o) (hup:s.toks<=t'):Inv X pins σ (upd (upd H P (nV P ps')) c (Nf c q)) { s with heap:=h2,toks:=t' }:=by
 have hn:H c=none:=I.hok.fresh hc
 have Zq:c≠P:=λz=>by rw[z,e]at hn;cases hn
 have lt:∀b o,s.heap.get? b=some o->b≠c:=λb o q=>Nat.ne_of_lt (Nat.lt_of_lt_of_le (Heap.lt_size q) hc)
 have WW:∀b,H b=none->b≠P:=λb q z=>by rw[z,e]at q;cases q
 have other:∀b u,(∀ φ,u≠HO.ext φ)->H b=some u->upd (upd H P (nV P ps')) c (Nf c q) b=some u:=λb u hu q=>by
  rw[ao (λz=>by rw[z,hn]at q;cases q),ao (λz=>by rw[z,e]at q;cases q;exact hu _ rfl)]
  exact q
 have kp:∀b o,b≠P->s.heap.get? b=some o->h2.get? b=some o:=λb o hb q=>k2 b o (hx b o hb q)
 refine I.un ⟨λb o q n _ _=>kp b o (WW b n) q,λb o q n _ _=>⟨o.slots,kp b o (WW b n) q⟩,λb o q n _=>?_,λb o q _=>?_,λb xs q=>other b _ (λ_ z=>by cases z) q,λb o u q=>other b _ (λ_ z=>by cases z) q,λb ps q=>⟨#[],by rw[other b _ (λ_ z=>by cases z) q];simp⟩⟩ (λb u q=>?_) hup
 ·rw[ao (lt b o q),ao (WW b n)]
  exact n
 ·by_cases z:b=P
  ·subst z;exact⟨_,k2 _ _ ht⟩
  ·exact⟨o,kp b o z q⟩
 ·by_cases z:b=c
  ·subst z
   rw[ah]at q
   cases q
   exact Qs (qJ k2 hr)
  ·rw[ao z]at q
   by_cases z2:b=P
   ·subst z2
    rw[ah]at q
    cases q
    exact Fv (k2 _ _ ht)
   ·rw[ao z2]at q
    refine(I.hok b u q).stay (λd v hd qd=>kp d v ?_ qd) (λd qd=>other d _ (λ_ z=>by cases z) qd) λd xs qd=>other d _ (λ_ z=>by cases z) qd
    rcases hd with hd|hd
    ·rw[hd];exact z2
    ·intro z3
     rw[z3,e]at hd
     cases hd
end
theorem OW{K:PySem.W.Frag}{H1 H2:Hp}{l:Addr}{vs:List V}(k:∀b u,(∀ φ,u≠HO.ext φ)->H1 b=some u->H2 b=some u)(h:bI K H1 l vs):bI K H2 l vs:=by
 rcases h with(h|⟨o,h⟩)|h
 ·exact .inl (.inl (k _ _ (λ_ z=>by cases z) h))
 ·exact .inl (.inr ⟨o,k _ _ (λ_ z=>by cases z) h⟩)
 ·exact .inr h
theorem Dw{sc:Scope}{env:Env}{x r:Str}{c:Addr}(hn:sc.names=[(x,.local),(r,.free)])(hc:env.cells.lookup r=some c):closureFor sc env=pure [(r,c)]:=by
 have z:=o9 (env:=env) sc.names [] (λy hy hk=>by
  rw[hn]at hy
  simp only[List.mem_cons,List.not_mem_nil,or_false]at hy
  rcases hy with rfl|rfl
  ·cases hk
  ·exact⟨c,hc⟩)
 unfold closureFor
 dsimp only
 rw[z,hn]
 have e:oM (λx=>env.cells.lookup x) [(x,NameKind.local),(r,NameKind.free)] []=[(r,c)]:=by
  unfold oM
  rw[if_neg (by decide)]
  unfold oM
  rw[if_pos (by decide)]
  show(match env.cells.lookup r with|some a=>oM _ [] ((r,a)::[])|none=>oM _ [] [])=_
  rw[hc]
  rfl
 rw[e]
 rfl
theorem Jl{P:Program}{w:World}{H H':Hp}{h:Heap}{d Pt:Addr}{kvs:List NE}{ps:Array Value}{φ:Heap->Prop}(nd:ND P w H d kvs)(ok:mO P w H h)(ht:h.get? Pt=some (PySem.W.tabObj ps))(hP:H Pt=some (.ext φ))(off:∀b u,b≠Pt->H b=some u->H' b=some u):ND P w H' d kvs:=by
 have neT:∀{b:Addr} {xs:List V},H b=some (.tup xs)->b≠Pt:=λ{b xs} e z=>by rw[z,hP]at e;cases e
 refine⟨off _ _ (λz=>?_) nd.at_,λx hx=>?_⟩
 ·obtain⟨_,_,xs,_,o,es,ep,ho,hc,_⟩:=(ok d _ nd.at_).1
  rw[z,ht]at ho
  cases ho
  exact absurd hc.1 (by intro q;cases q)
 ·obtain⟨p,h1,h2⟩:=nd.keys x hx
  exact⟨p,off _ _ (neT h1) h1,off _ _ (neT h2) h2⟩
def KH(KV:Program->World->Hp->V->V->Int->Prop):Prop:=∀(P:Program) (w:World) (H H':Hp) (h:Heap) (v rv:V) (k:Int) (Pt:Addr) (ps:Array Value) (φ:Heap->Prop),
 KV P w H v rv k->mO P w H h->h.get? Pt=some (PySem.W.tabObj ps)->H Pt=some (.ext φ)->(∀b u,b≠Pt->H b=some u->H' b=some u)->KV P w H' v rv k
theorem LV:KH KV1:=λP w H H' h v rv k Pt ps φ kv ok ht hP off=>by
 obtain⟨p,d,kvs,i,j,rfl,hp,rfl,nd,hv⟩:=kv
 exact⟨p,d,kvs,i,j,rfl,off _ _ (λz=>by rw[z,hP]at hp;cases hp) hp,rfl,Jl nd ok ht hP off,hv⟩
theorem LU:KH KV2:=λP w H H' h v rv k Pt ps φ kv ok ht hP off=>by
 obtain⟨p,d,q,kvs,ky,c,r,rfl,hp,⟨q2,k1,k2⟩,rfl,nd,hv,rfl⟩:=kv
 have neT:∀{b:Addr} {xs:List V},H b=some (.tup xs)->b≠Pt:=λ{b xs} e z=>by rw[z,hP]at e;cases e
 exact⟨p,d,q,kvs,ky,c,r,rfl,off _ _ (neT hp) hp,⟨q2,off _ _ (neT k1) k1,off _ _ (neT k2) k2⟩,rfl,Jl nd ok ht hP off,hv,rfl⟩
def Apart(Pr:Program)(wo:World)(H:Hp)(P:Addr):Prop:=(∀b q,H b=some (Nf b q)->b≠P)/\∀d kvs,H d=some (AV Pr wo d kvs)->d≠P
theorem DA{P:Program}{w:World}{H:Hp}{h:Heap}{Pt:Addr}{ps:Array Value}(ok:mO P w H h)(ht:h.get? Pt=some (PySem.W.tabObj ps))(hp:∀q t,ps[1]? ≠some (.str q t)):Apart P w H Pt:=by
 refine⟨λb q e z=>?_,λd kvs e z=>?_⟩
 ·obtain⟨c₂,o,vs,t,e0,e1,e2,e3⟩:=(ok b _ e).1
  cases e0
  rw[z,ht]at e1
  cases e1
  cases e2
  exact hp _ _ e3
 ·obtain⟨_,_,xs,_,o,es,ep,ho,hc,_⟩:=(ok d _ e).1
  rw[z,ht]at ho
  cases ho
  exact absurd hc.1 (by intro q;cases q)
def Rj(Pr:Program)(wo:World)(K:PySem.W.Frag)(KV:Program->World->Hp->V->V->Int->Prop)(P:Addr)(ln:Pos)(lq:Str)(ir:Nat)(ta:TA):TE:=λσ H Q=>ta σ H λzs H1=>∃(l:Addr) (vs:List V) (rv:V) (kf:Nat->Int),zs=[.ref l]/\σ[ir]? =some (some rv)/\bI K H1 l vs/\0<vs.length ∧
 (∀i v,vs[i]? =some v->KV Pr wo H1 v rv (kf i))/\TabOk H1 P ln lq/\∀H2,Apart Pr wo H1 P->(∀b u,b≠P->H1 b=some u->H2 b=some u)->TabOk H2 P ln lq->∀i v,vs[i]? =some v->Mz kf vs.length i->Q v H2
theorem FZ{X:Cx}{c P:Addr}{e:Expr}{ta:TA}{p pos qR JE:Pos}{ps:Arguments}{body:Expr}{sc:Scope}{x r:Str}{ir:Nat}{KV:Program->World->Hp->V->V->Int->Prop}{Pr:Program}{wo:World}{K':PySem.W.Frag}(LK:Fd ps body sc x r KV)(KO:KH KV)(hn:sc.names=[(x,.local),(r,.free)])
  (hcode:X.env.code= .ref c) (hC:PySem.W.codeHdIn X.K c P=true) (hbm:Nq X.base X.mg) (JP:X.calm=true) (hroom:X.A.depth<recursionLimit) (hu:X.A.units+16<cLine)
  (hg:Gl X "min") (hm:X.mg "min" =none) (hv:bootBuiltins "min" =some (.builtin "min")) (hN:X.N[ir]? =some r) (hcell:X.env.kindOf r=some .cell) (ha:PA X [e] ta) (hP:X.prog=Pr) (hw:X.w=wo) (hK:X.K=K') (hd0:defaultsOf ps X.env=([],[]):=by rfl)
  (he:backTo pos (starEach [e] X.env)=(false,eval e X.env)::backTo pos (starEach [] X.env):=by rfl) (hpl:(backTo pos (starEach [e] X.env)).any (·.1)=false:=by rfl) :
  PE X (.Call (.Name "min" p) [e] [⟨some (Str.ofString "key"),.Lambda ps body sc qR,JE⟩] pos) (Rj Pr wo K' KV P qR (X.env.qual++ "<lambda>") ir ta):=by
 subst hP hw hK
 intro pins s σ H Q I h
 refine wpAny_Call_Name_kw (qi I hg hm hv ?_)
 refine callWith_kw (fh (ha pos pins s σ H _ I h) λus s1 ⟨zs,H1,I1,r1,q1⟩=>?_) he hpl rfl rfl
 obtain⟨l,vs,rv,kf,rfl,hir,hq,hne,hkv,hT,k⟩:=q1
 obtain⟨u,rfl,rx⟩:=vals1 r1
 cases rx
 obtain⟨m,hns,hl⟩:=I1.loc
 obtain⟨ru,rru,lk⟩:=hl ir r rv hN hir (.inr (.inl hcell))
 obtain⟨cc,hcc,hic⟩:∃cc,X.env.cells.lookup r=some cc/\s1.heap.IsCell cc (some ru):=by
  rcases lk with⟨z,_⟩|⟨_,z⟩
  ·rw[hcell]at z;cases z
  ·exact z
 have hcl:=Dw hn hcc
 refine kws_cons (PySem.W.kla_eval hd0 ?_)
 have hgs:s1.heap.Ns mainGlobals X.mg:=I1.mod.glob.keeps I1.bk
 obtain⟨bm,ob,b1,b2,b3,b4,b5,b6⟩:=hbm
 have Q2:=I1.bk _ _ b3
 have Z9:=PySem.W.codeHd_of_K I1.pI hC
 have ext:∃ φ,H1 P=some (.ext φ):=by
  rcases hT with hT|⟨_,hT,_⟩
  ·exact⟨_,hT⟩
  ·exact⟨_,hT⟩
 obtain⟨φ,hφ⟩:=ext
 have hAp:Apart X.prog X.w H1 P:=by
  rcases hT with hT|⟨_,hT,_⟩
  ·exact DA I1.hok (I1.tab hT) (λq t z=>by cases z)
  ·exact DA I1.hok (I1.tab hT) (λq t z=>by cases z)
 have after:∀(q:Addr) (H2:Hp) (s2:Shared),Inv X pins σ H2 s2->(∀b u,b≠P->H1 b=some u->H2 b=some u)->TabOk H2 P qR (X.env.qual++ "<lambda>")->bI X.K H2 l vs->yh s2.heap q (X.env.qual++ "<lambda>") ps body sc [(r,cc)]->s2.heap.IsCell cc (some ru)->(∀i v,vs[i]? =some v->KV X.prog X.w H2 v rv (kf i)) →
   wpAny (model X.prog X.w) X.A (evalAll ((backToKw pos (keywordEach [] X.env)).map (·.2)))
    (λkvs s₂=>wpAny (model X.prog X.w) X.A (call (.builtin "min") [.ref l] (((backToKw pos (keywordEach [⟨some (Str.ofString "key"),.Lambda ps body sc qR,JE⟩] X.env)).filterMap (·.1)).zip (.ref q::kvs))) (EP X pins σ Q) X.xe s₂) X.xe s2:=by
  intro q H2 s2 I2 UG hT2 hq2 Yl hc2 XY
  refine kws_nil ?_
  show wpAny _ X.A (call (.builtin "min") [.ref l] [(Str.ofString "key",.ref q)]) _ _ s2
  have k1:=k H2 hAp UG hT2
  obtain⟨its,r',pl,hz⟩:=I2.list hq2
  have hlen:=r'.length
  refine TK.bY (Nat.le_refl _) (HB (kf:=kf) (I2.ok.hd JP) pl.isList (λi v h tk Q' hv' kp hQ=>?_) (by omega) λi v h' tk' hv' hb kp hup=>?_)
  ·have hi:i<its.length:=(List.getElem?_eq_some_iff.mp hv').1
   have hi1:i<vs.length:=by omega
   obtain⟨u',eu,WA⟩:=r'.get (List.getElem?_eq_getElem hi1)
   rw[hv']at eu
   cases eu
   obtain⟨oc,gc1,gc2⟩:=hc2
   refine G9 (s:={ s2 with heap:=h,toks:=tk }) (A:=X.A.in1) (rv:=ru) (Yl.keep kp) LK.1 ⟨oc,kp _ _ gc1,gc2⟩ (I2.nolimit.keeps kp) hroom λenv A' h1 ME E' hA JE L=>?_
   refine LK.2 X.prog X.w H2 vs[i] rv (kf i) v ru s2 h1 ME A' env _ _ (XY i _ (List.getElem?_eq_getElem hi1)) WA rru (I2.hok.kept λb o z=>JE b o (kp b o z)) (by rw[hA];show X.A.units+1+3+2<cLine;omega) L λh' tk' t k'=>?_
   exact hQ h' tk' t λb o z=>k' b o (JE b o z)
  ·have hi:i<its.length:=(List.getElem?_eq_some_iff.mp hv').1
   have hi1:i<vs.length:=by omega
   obtain⟨u',eu,WA⟩:=r'.get (List.getElem?_eq_getElem hi1)
   rw[hv']at eu
   cases eu
   refine⟨vs[i],H2,I2.kept kp hup,WA,k1 i _ (List.getElem?_eq_getElem hi1) ?_⟩
   rw[show vs.length=its.length by omega]
   exact hb
 have off:∀b,H1 b=none->b≠P:=λb q z=>by rw[z,hφ]at q;cases q
 have RP:∀{ps':Array Value},H1 P=some (nV P ps')->s1.heap.get? P=some (PySem.W.tabObj ps')->mainGlobals≠P/\bm≠P/\cc≠P:=λ{ps'} e e'=>by
  refine⟨λz=>?_,λz=>?_,λz=>?_⟩
  ·obtain⟨o,es,ep,eo,hd,_⟩:=hgs
   rw[z,e']at eo;cases eo;cases hd
  ·rw[z,e']at Q2;cases Q2;cases b4
  ·obtain⟨o,g1,g2⟩:=hic
   rw[z,e']at g1;cases g1;cases g2
 have bmG:bm≠mainGlobals:=λz=>by
  obtain⟨o,es,ep,eo,hd,_⟩:=hgs
  rw[z,eo]at Q2;cases Q2;rw[hd]at b6;cases b6
 rcases id hT with e0|⟨c',e0,ec⟩
 ·have tb:=I1.tab e0
  obtain⟨n1,n2,n3⟩:=RP e0 tb
  refine TK.bY (Nat.le_refl _) (PySem.W.kla_makeFunction (mg:=X.mg) (ps:= #[]) hcl I1.ok.glob hgs hcode Z9 tb trivial rfl n1 ⟨bm,ob,b1,b2,bmG,n2,Q2,b4,b5,b6⟩ λc' ctv h' tk hx hge hlt hrec htb hup=>?_)
  have hcn:H1 c'=none:=I1.hok.fresh hge
  have Zq:P≠c':=λz=>off c' hcn z.symm
  have htb':h'.get? P=some (PySem.W.tabObj #[rawInt qR.line,rawInt qR.col,.ref c']):=by
   have:=htb
   rwa [show(#[]:Array Value)++ #[rawInt qR.line,rawInt qR.col,Value.ref c']= #[rawInt qR.line,rawInt qR.col,Value.ref c'] from rfl]at this
  have hoff:∀b u,b≠P->H1 b=some u->upd (upd H1 P (nV P #[rawInt qR.line,rawInt qR.col,.ref c'])) c' (Nf c' (X.env.qual++ "<lambda>")) b=some u:=λb u hb q=>by
   rw[ao (λz=>by rw[z,hcn]at q;cases q),ao hb]
   exact q
  refine after _ (upd (upd H1 P (nV P #[rawInt qR.line,rawInt qR.col,.ref c'])) c' (Nf c' (X.env.qual++ "<lambda>"))) _ (I1.OM e0 hx hge hrec htb' (λb o q=>Heap.get?_push_of_some _ q) hup) hoff (.inr ⟨c',by rw[ao Zq,ah],ah⟩) ?_ ⟨_,c',ctv,Heap.get?_push_size _ rfl,qJ (λb o q=>Heap.get?_push_of_some _ q) hrec⟩ ?_ λi v hi=>KO _ _ _ _ _ _ _ _ _ _ _ (hkv i v hi) I1.hok tb e0 hoff
  ·refine OW (λb u hu q=>?_) hq
   rw[ao (λz=>by rw[z,hcn]at q;cases q),ao (λz=>by rw[z,e0]at q;cases q;exact hu _ rfl)]
   exact q
  ·obtain⟨o,g1,g2⟩:=hic
   exact⟨o,Heap.get?_push_of_some _ (hx _ _ n3 g1),g2⟩
 ·have tb:=I1.tab e0
  obtain⟨n1,n2,n3⟩:=RP e0 tb
  refine TK.bY (Nat.le_refl _) (PySem.W.kla_makeFunctionHit (mg:=X.mg) (ps:= #[rawInt qR.line,rawInt qR.col,.ref c']) (cv:=.ref c') hcl I1.ok.glob hgs hcode Z9 tb ?_ ?_ ⟨bm,ob,b1,b2,bmG,n2,Q2,b4,b5,b6⟩ λctv h' tk kp hsz hup=>?_)
  ·show TriplesOk [rawInt _,rawInt _,_]
   exact trivial
  ·exact codeAmong_snoc [] trivial rfl
  ·obtain⟨o,g1,g2⟩:=hic
   exact after _ H1 _ (I1.kept (λb o q=>Heap.get?_push_of_some _ (kp b o q)) hup) (λb u _ q=>q) hT hq ⟨_,c',ctv,Heap.get?_push_size _ rfl,qJ (λb o q=>Heap.get?_push_of_some _ (kp b o q)) (I1.cd ec)⟩ ⟨o,Heap.get?_push_of_some _ (kp _ _ g1),g2⟩ hkv
end L2
namespace L2
open PySem PySem.Spec PyProof.Rows
def eY(K:PySem.W.Frag)(n:Str):Addr:=match PySem.W.nsIn K mainGlobals n with
 |some (some (.ref f))=>(match K.lookup f with
  |some ⟨_,_,.func fd,_⟩=>(match fd.code with
   | .ref c=>(match K.lookup c with
    |some ⟨_,_,.fields vs,_⟩=>(match (vs[11]? :Option Value)with|some (.ref P)=>P|_=>0)
    |_=>0)
   |_=>0)
  |_=>0)
 |_=>0
def pH(K:PySem.W.Frag)(n:Str):Bool:=match PySem.W.nsIn K mainGlobals n with
 |some (some (.ref f))=>(match K.lookup f with
  |some ⟨_,_,.func fd,_⟩=>(match fd.code with
   | .ref c=>PySem.W.codeHdIn K c (eY K n)&&(K.lookup (eY K n)).isNone
   |_=>false)
  |_=>false)
 |_=>false
theorem JC{K:PySem.W.Frag}{n:Str}{f:Addr}{oc:Value}{od:Option Addr}{fd:FuncData}{osl:Array (Option Value)}(h:pH K n=true)(a:PySem.W.nsIn K mainGlobals n=some (some (.ref f)))(l:K.lookup f=some ⟨oc,od,.func fd,osl⟩):
  ∃c,fd.code= .ref c/\PySem.W.codeHdIn K c (eY K n)=true:=by
 unfold pH at h
 rw[a]at h
 simp only[l]at h
 split at h
 ·rename_i c hc
  exact⟨c,hc,(Bool.and_eq_true_iff.mp h).1⟩
 ·cases h
theorem C0{K:PySem.W.Frag}{n:Str}(h:pH K n=true):(∃c,PySem.W.codeHdIn K c (eY K n)=true)/\K.lookup (eY K n)=none:=by
 unfold pH at h
 split at h
 ·split at h
  ·split at h
   ·obtain⟨h1,h2⟩:=Bool.and_eq_true_iff.mp h
    exact⟨⟨_,h1⟩,Option.isNone_iff_eq_none.mp h2⟩
   ·cases h
  ·cases h
 ·cases h
section
variable{P:Program}{w:World}{K:PySem.W.Frag}{mg:Str->Option Value}{base:Heap}
theorem K3.Zj{x qual:Str}{st:Stmt}{f:Addr}{fd:FuncData}{N ps:List Str}{k:Nat}{sp:Sp}(F:K3 K x qual st f fd)(XS:pH K x=true)(hns:PySem.W.nsIn K mainGlobals x=some (some (.ref f)))(S:aH N ps (ay st))(len:∀vs H Q E,sp vs H Q E->vs.length=ps.length)
  (hbody:∀(c:Addr) (A:Around) (outer:List Env) (s:Shared) (H:Hp) (vs:List V) (Q:VK) (E:XK),PySem.W.codeHdIn K c (eY K x)=true->jO k (A.deeper (envOfC qual (ay st) s.heap.objs.size f (.ref c)))->sp vs H Q E →
   ∃t,Aa (tL b8 P w K mg base N qual (ay st) f (.ref c) A outer s H E).Pe (d8 st) t/\t { nx:=λ_ H'=>Q .iz H',rt:=Q } (start N vs) H):aI P w K mg base b8 (k+1) f fd ps sp:=by
 obtain⟨oc,od,dV,kV,doc,pm,an,cdv,ct,osl,rfl,lk,hcd⟩:=F.ex
 obtain⟨c,e1,e2⟩:=JC XS hns lk
 have e1':cdv= .ref c:=e1
 subst e1'
 refine JY lk hcd S len λA outer s H vs Q E hr DY=>?_
 obtain⟨t,h,q⟩:=hbody c A outer s H vs Q E e2 hr DY
 exact⟨t,h.Pe,q⟩
end
set_option maxHeartbeats 1000000 in
theorem G8{P:Program}{w:World}{K:PySem.W.Frag}{mg mb:Str->Option Value}{CX:HR}{k:Nat}{fa a:Addr}{ts:List Addr}{fd:FuncData}{x:Str}{sp:Sp}{s₁:Shared}{vs:List Value}{ns:List Int}
  (KX:K.In s₁.heap) (hns:s₁.heap.Ns mainGlobals mg) (hb:s₁.heap.Ns builtinsNs mb) (JR:∀x:Str,x≠ "__name__" ->mb x=bootBuiltins x) (hlim:s₁.heap.NoLimit) (hg:s₁.gens= #[]) (htk:E9 mg s₁.toks) (hbm:Nq s₁.heap mg)
  (hT:∀P∈ts,s₁.heap.get? P=some (PySem.W.tabObj #[])) (hTk:∀P∈ts,K.lookup P=none) (hTc:∀P∈ts,∃c,PySem.W.codeHdIn K c P=true)
  (ha:s₁.heap.get? a=some { cls:=.type "list",data:=.seq vs.toArray }) (hi:IntsAre vs ns) (hl:ns.length<=sizeLine) (hr:jO k callerA)
  (F:∀base:Heap,K.In base->base.Ns mainGlobals mg->Nq base mg->aI P w K mg base CX k fa fd [x] sp) (hbind:∀(s:Shared) (u:Value),BindsTo s fd ⟨[u],[]⟩ [(x,u)])
  (DY:∀H:Hp,(∀P∈ts,H P=some (nV P #[]))->bI K H a (ns.map V.int)->sp [.ref a] H (λv H'=>v= .bl true/\∀P∈ts,∃ps,H' P=some (nV P ps)) λ_ _ _=>False)
  (Yr:∀H e s',CX [] H s₁ (λ_ _ _=>False) e s'->False) :
  codeAny (model P w) callerA (.call (.ref fa) ⟨[.ref a],[]⟩) (λr s'=>r= .ok (.ret (.bool true))/\OldK s₁.heap s'.heap/\s'.os=s₁.os/\AllBare s'.gens) s₁:=by
 have rv:=zo hi
 have W7:=hi.length
 have Zr:a∉ts:=λz=>by have:=hT a z;rw[ha]at this;cases this
 have core:∀H:Hp,(∀b,H b=none\/b∈ts\/∃o xs,H b=some (.EV o (.lst xs)))->(∀P∈ts,H P=some (nV P #[]))->bI K H a (ns.map V.int)->mO P w H s₁.heap->(∀b,H b≠none->b=a\/b∈ts)->(H a≠none->K.lookup a=none) →
   codeAny (model P w) callerA (.call (.ref fa) ⟨[.ref a],[]⟩) (λr s'=>r= .ok (.ret (.bool true))/\OldK s₁.heap s'.heap/\s'.os=s₁.os/\AllBare s'.gens) s₁:=by
  intro H hO hPt hS hok hA hK
  have baseOf:∀{b:Addr} {o:Obj},s₁.heap.get? b=some o->H b=none->(yN s₁.heap H).get? b=some o:=λe n=>JO e n
  have free:∀{b:Addr} {o:Obj},s₁.heap.get? b=some o->o≠{ cls:=.type "list",data:=.seq vs.toArray }->o≠PySem.W.tabObj #[]->H b=none:=λ{b o} e d1 d2=>by
   cases q:H b with
   |none=>rfl
   |some u =>
    rcases hA b (by rw[q];simp)with e'|e'
    ·subst e';rw[ha]at e;cases e;exact absurd rfl d1
    ·rw[hT b e']at e;cases e;exact absurd rfl d2
  have Uk:∀{b:Addr} {m:Str->Option Value},s₁.heap.Ns b m->(yN s₁.heap H).Ns b m:=λ{b m} ⟨o,es,ep,e,d,r⟩=>⟨o,es,ep,baseOf e (free e (λz=>by rw[z]at d;cases d) (λz=>by rw[z]at d;cases d)),d,r⟩
  have Z1:K.In (yN s₁.heap H):=λb o e=>baseOf (KX b o e) (by
   cases q:H b with
   |none=>rfl
   |some u =>
    rcases hA b (by rw[q];simp)with e'|e'
    ·subst e';rw[hK (by rw[q];simp)]at e;cases e
    ·rw[hTk b e']at e;cases e)
  have hBb:Nq (yN s₁.heap H) mg:=by
   obtain⟨bm,ob,b1,b2,b3,b4,b5,b6⟩:=hbm
   exact⟨bm,ob,b1,b2,baseOf b3 (free b3 (λz=>by rw[z]at b6;cases b6) (λz=>by rw[z]at b6;cases b6)),b4,b5,b6⟩
  have hM:Mod K mg (yN s₁.heap H):=⟨Z1,Uk hns,⟨mb,Uk hb,JR⟩,let ⟨mc,h1,h2⟩:=hlim;⟨mc,Uk h1,h2⟩⟩
  have e0:Fi P w K mg (yN s₁.heap H) callerA [] s₁ H:=⟨rfl,hM,λb o e=>Lz e,Nat.le_of_eq (Hq _ _),trivial,λb hb=>absurd (show b∈([]:List Addr) from hb) (by simp),hok,.of_eq hg,htk⟩
  refine codeAny_mono ((F _ Z1 (Uk hns) hBb).run callerA [] s₁ H ⟨[.ref a],[]⟩ [.ref a] [.ref a] _ _ hr e0 (hbind s₁ (.ref a)) (.cons rfl .nil) (DY H hPt hS)) λr s' h=>?_
  cases r with
  |error e=>exact(Yr H e s' h).elim
  |ok fl =>
   cases fl with
   |next=>exact False.elim h
   |brk=>exact False.elim h
   |cont=>exact False.elim h
   |ret u =>
    obtain⟨v,H',os,bare,un,SM,r',_,q,qT⟩:=h
    have q':v= .bl true:=q
    subst q'
    obtain rfl:u=Value.bool true:=r'
    have tb:∀P∈ts,∃ps',s'.heap.get? P=some (PySem.W.tabObj ps'):=λP hP=>by obtain⟨ps',z⟩:=qT P hP;exact⟨ps',(SM P _ z).1⟩
    have kp:∀b o,b∉ts->s₁.heap.get? b=some o->s'.heap.get? b=some o:=λb o KZ e=>by
     cases q:H b with
     |none=>exact un.keep b o e q (by intro z;exact absurd (show b∈([]:List Addr) from z) (by simp)) (by simp)
     |some u =>
      rcases hO b with z|z|⟨ob,xs,z⟩
      ·rw[q]at z;cases z
      ·exact absurd z KZ
      ·have z2:=un.r9 b ob _ z
       obtain⟨e1,_⟩:=hok b _ z
       obtain⟨e2,_⟩:=SM b _ z2
       rw[e]at e1;cases e1
       exact e2
    refine⟨rfl,⟨λb o e=>?_,λb o e=>?_⟩,os,bare⟩
    ·by_cases KZ:b∈ts
     ·rw[hT b KZ]at e
      cases e
      obtain⟨c,hc⟩:=hTc b KZ
      obtain⟨ps',e1⟩:=tb b KZ
      have hcd:=PySem.W.codeHd_of_K KX hc
      exact .inr (.inl ⟨(hcd.tab (hT b KZ)).isCodeTable,rfl,#[],ps',rfl,by rw[e1];simp[PySem.W.tabObj]⟩)
     ·exact .inl (kp b o KZ e)
    ·by_cases KZ:b∈ts
     ·obtain⟨ps',e1⟩:=tb b KZ
      exact⟨_,e1⟩
     ·exact⟨o,kp b o KZ e⟩
 have Zi:∀(H:Hp) (b:Addr),b∈ts->bQ P w H s₁.heap b (nV b #[]):=λH b hb=>Fv (hT b hb)
 cases hk:K.lookup a with
 |some o =>
  have e:=KX a o hk
  rw[ha]at e
  cases e
  refine core (λb=>if b∈ts then some (nV b #[])else none) (λb=>?_) (λb hb=>if_pos hb) (.inr ⟨_,vs.toArray,_,hk,rfl,rfl,rfl,by rw[List.size_toArray,W7];exact hl,by simpa using rv⟩) (λb u z=>?_) (λb z=>?_) λz=>absurd (if_neg Zr) z
  ·by_cases hb:b∈ts
   ·exact .inr (.inl hb)
   ·exact .inl (if_neg hb)
  ·by_cases hb:b∈ts
   ·have z':=(if_pos hb).symm.trans z
    cases z'
    exact Zi _ b hb
   ·have z':=(if_neg hb).symm.trans z
    cases z'
  ·by_cases hb:b∈ts
   ·exact .inr hb
   ·exact absurd (if_neg hb) z
 |none =>
  refine core (λb=>if b=a then some (.EV { cls:=.type "list",data:=.seq vs.toArray } (.lst (ns.map V.int)))else if b∈ts then some (nV b #[])else none) (λb=>?_) (λb hb=>?_) (.inl (.inr ⟨{ cls:=.type "list",data:=.seq vs.toArray },if_pos rfl⟩)) (λb u z=>?_) (λb z=>?_) λ_=>hk
  ·by_cases hb:b=a
   ·exact .inr (.inr ⟨_,_,if_pos hb⟩)
   ·by_cases hb2:b∈ts
    ·exact .inr (.inl hb2)
    ·exact .inl ((if_neg hb).trans (if_neg hb2))
  ·exact(if_neg (λz:b=a=>Zr (z▸hb))).trans (if_pos hb)
  ·by_cases hb:b=a
   ·have z':=(if_pos hb).symm.trans z
    cases z'
    subst hb
    exact⟨ha,by rw[List.length_map];exact hl,vs,_,rv,ha⟩
   ·by_cases hb2:b∈ts
    ·have z':=((if_neg hb).trans (if_pos hb2)).symm.trans z
     cases z'
     exact Zi _ b hb2
    ·have z':=((if_neg hb).trans (if_neg hb2)).symm.trans z
     cases z'
  ·by_cases hb:b=a
   ·exact .inl hb
   ·by_cases hb2:b∈ts
    ·exact .inr hb2
    ·exact absurd ((if_neg hb).trans (if_neg hb2)) z
theorem Ii{l:PySem.W.OpenLaw}{n k:Nat}{q:Program}{loose:List Str}{XP:(Str->Option Value)->Heap->Prop}{YP:World->Heap->Prop}{d:DefRec}{K:Params->PySem.W.Frag}{CX:World->HR}{sp:World->Sp}{x:Str}{nms:List Str}
  (hn:l.most=some n) (hn2:n<=sizeLine) (hdf:d.params.defaults=[]) (hr:jO k callerA)
  (hY:∀(w:World) (h:Heap),YP w h->(K w.params).In h) (hYT:∀(w:World) (h:Heap),YP w h->∀nm∈nms,h.get? (eY (K w.params) nm)=some (PySem.W.tabObj #[])) (hL:∀w:World,∀nm∈nms,pH (K w.params) nm=true)
  (hG:∀w:World,PySem.W.nsIn (K w.params) mainGlobals "GAP" =some none)
  (F:∀(w:World) (mg:Str->Option Value) (fa:Addr) (h:Heap),(K w.params).In h->h.Ns mainGlobals mg->mg d.name=some (.ref fa) →
   ∃fd:FuncData,(∀(s:Shared) (u:Value),BindsTo s fd ⟨[u],[]⟩ [(x,u)]) ∧
    ∀base:Heap,(K w.params).In base->base.Ns mainGlobals mg->Nq base mg->aI l.prog w (K w.params) mg base (CX w) k fa fd [x] (sp w))
  (DY:∀(w:World) (H:Hp) (a:Addr) (ns:List Int),ns.length<=n->(∀nm∈nms,H (eY (K w.params) nm)=some (nV (eY (K w.params) nm) #[]))->bI (K w.params) H a (ns.map V.int)->sp w [.ref a] H (λv H'=>v= .bl true/\∀nm∈nms,∃ps,H' (eY (K w.params) nm)=some (nV (eY (K w.params) nm) ps)) λ_ _ _=>False)
  (Yr:∀(w:World) (H:Hp) (s:Shared) (e:Value) (s':Shared),CX w [] H s (λ_ _ _=>False) e s'->False) :
  PySem.W.WalkO q loose XP YP l.row.toRowW d [] (λf vs=>PySem.call f vs):=by
 refine Att.Dz hn hdf λw s₀ s₁ mg mb fa o pm cd doc a vs ns G Y ho hd hcd hmg hobj hints hlen hg=>?_
 have KX:=hY w _ Y
 obtain⟨fd,hb,hF⟩:=F w mg fa _ KX G.T.g hmg
 have gap:=PySem.W.mg_none_of KX G.T.g (hG w)
 exact G8 (ts:=nms.map (eY (K w.params))) KX G.T.g G.T.b G.T.builtins G.T.nolimit hg (λv u e=>by rw[gap]at e;cases e) G.T.bmain
  (λP hP=>by obtain⟨nm,hm,rfl⟩:=List.mem_map.mp hP;exact hYT w _ Y nm hm) (λP hP=>by obtain⟨nm,hm,rfl⟩:=List.mem_map.mp hP;exact(C0 (hL w nm hm)).2) (λP hP=>by obtain⟨nm,hm,rfl⟩:=List.mem_map.mp hP;exact(C0 (hL w nm hm)).1)
  hobj hints (Nat.le_trans hlen hn2) hr hF hb (λH hO hS=>by
   have z:=DY w H a ns hlen (λnm hm=>hO _ (List.mem_map.mpr ⟨nm,hm,rfl⟩)) hS
   have e:(λ(v:V) (H':Hp)=>v= .bl true/\∀P∈nms.map (eY (K w.params)),∃ps,H' P=some (nV P ps))=λv H'=>v= .bl true/\∀nm∈nms,∃ps,H' (eY (K w.params) nm)=some (nV (eY (K w.params) nm) ps):=by
    funext v H'
    simp
   rw[e]
   exact z) λH e s'=>Yr w H s₁ e s'
end L2
namespace GP
open PySem L2 sy
def jg:List Int->Int
 |[]=>0
 |x::xs=>xs.foldl min x
theorem se:∀(l:List Int) (x:Int),l.foldl min x<=x/\∀y∈l,l.foldl min x<=y
 |[],x=>⟨Int.le_refl _,λy hy=>(nomatch hy)⟩
 |a::l,x=>by
  obtain⟨h1,h2⟩:=se l (min x a)
  rw[List.foldl_cons]
  refine⟨by omega,λy hy=>?_⟩
  rcases List.mem_cons.mp hy with rfl|hy
  ·omega
  ·exact h2 y hy
theorem vm:∀(l:List Int) (x:Int),l.foldl min x=x\/l.foldl min x∈l
 |[],x=>.inl rfl
 |a::l,x=>by
  rw[List.foldl_cons]
  rcases vm l (min x a)with h|h
  ·rw[h]
   by_cases e:x<=a
   ·exact .inl (by omega)
   ·rw[show min x a=a by omega]
    exact .inr List.mem_cons_self
  ·exact .inr (List.mem_cons_of_mem _ h)
theorem lF{l:List Int}{x:Int}(h:x∈l):jg l<=x:=by
 cases l with
 |nil=>exact nomatch h
 |cons a l =>
  rcases List.mem_cons.mp h with rfl|h
  ·exact(se l _).1
  ·exact(se l a).2 x h
theorem mZ{l:List Int}(h:l≠[]):jg l∈l:=by
 cases l with
 |nil=>exact absurd rfl h
 |cons a l =>
  rcases vm l a with h|h
  ·exact List.mem_cons.mpr (.inl h)
  ·exact List.mem_cons_of_mem _ h
theorem tu{l:List Int}{x:Int}(h:x∈l)(h2:∀y∈l,x<=y):jg l=x:=Int.le_antisymm (lF h) (h2 _ (mZ (List.ne_nil_of_mem h)))
def fmin{α:Type}(f:α->Int):List α->Option α
 |[]=>none
 |x::xs=>match fmin f xs with
  |none=>some x
  |some y=>if f y<f x then some y else some x
theorem m6{α:Type}{f:α->Int}:∀{l:List α} {x:α},fmin f l=some x->x∈l
 |[],x,h=>by cases h
 |a::l,x,h=>by
  unfold fmin at h
  split at h
  ·cases h;exact List.mem_cons_self
  ·next y e =>
   split at h
   ·cases h;exact List.mem_cons_of_mem _ (m6 e)
   ·cases h;exact List.mem_cons_self
theorem A9{α:Type}{f:α->Int}:∀{l:List α} {k:Nat} {x:α},l[k]? =some x->(∀j y,l[j]? =some y->f x<=f y/\(j<k->f x<f y))->fmin f l=some x
 |[],k,x,h,_=>by simp at h
 |a::l,0,x,h,hx=>by
  obtain rfl:a=x:=by simpa using h
  unfold fmin
  split
  ·rfl
  ·next y e =>
   obtain⟨j,hj,ey⟩:=List.getElem_of_mem (m6 e)
   have:=(hx (j+1) y (by simpa using(List.getElem?_eq_some_iff.mpr ⟨hj,ey⟩))).1
   rw[if_neg (by omega)]
 |a::l,k+1,x,h,hx=>by
  have e:fmin f l=some x:=A9 (k:=k) (by simpa using h) λj y hy=>by
   have:=hx (j+1) y (by simpa using hy)
   exact⟨this.1,λz=>this.2 (by omega)⟩
  unfold fmin
  rw[e]
  have:=(hx 0 a rfl).2 (by omega)
  simp[this]
theorem uL{α:Type}{f:α->Int}{l:List α}(h:l≠[]):∃x,fmin f l=some x:=by
 cases l with
 |nil=>exact absurd rfl h
 |cons a l =>
  unfold fmin
  split
  ·exact⟨_,rfl⟩
  ·split<;>exact⟨_,rfl⟩
theorem tH{α:Type}{f:α->Int}:∀{l:List α} {x y:α},fmin f l=some x->y∈l->f x<=f y
 |[],x,y,h,_=>by cases h
 |a::l,x,y,h,hy=>by
  unfold fmin at h
  split at h
  ·next e =>
   cases h
   rcases List.mem_cons.mp hy with rfl|hy
   ·exact Int.le_refl _
   ·obtain⟨z,ez⟩:=uL (f:=f) (List.ne_nil_of_mem hy)
    rw[e]at ez;cases ez
  ·next z e =>
   have k:=λhy=>tH (y:=y) e hy
   split at h
   ·cases h
    rcases List.mem_cons.mp hy with rfl|hy
    ·omega
    ·exact k hy
   ·cases h
    rcases List.mem_cons.mp hy with rfl|hy
    ·exact Int.le_refl _
    ·have:=k hy;omega
abbrev cE:=Nat×Nat×Nat
structure Gd where
 n:Nat
 m:Nat
 pc:Nat->Nat->Int
 op:Int
 mo:Int
 en:Nat->Nat->Bool
def Gd.ac(g:Gd)(v c:Nat):Int:=if v=c then g.mo else g.op+g.mo
def Gd.steps(g:Gd)(s:cE):List (cE×Int) :=
 (if s.1<g.n/\s.2.1<g.m then [((s.1+1,s.2.1+1,112),g.pc s.1 s.2.1)]else [])++((if s.1<g.n then [((s.1+1,s.2.1,97),g.ac 97 s.2.2)]else [])++(if s.2.1<g.m then [((s.1,s.2.1+1,98),g.ac 98 s.2.2)]else []))
def Gd.costs(g:Gd)(R:cE->Int)(s:cE):List Int:=(g.steps s).map (λt=>t.2+R t.1)++if g.en s.1 s.2.1 then [0]else []
def Gd.ML(g:Gd):Nat->cE->Int
 | 0,_=>0
 |d+1,s=>jg (g.costs (g.ML d) s)
def Gd.ht(g:Gd)(s:cE):Nat:=g.n-s.1+(g.m-s.2.1)
def Gd.rest(g:Gd)(s:cE):Int:=g.ML (g.ht s+1) s
def Gd.In(g:Gd)(s:cE):Prop:=s.1<=g.n/\s.2.1<=g.m/\(s.2.2=112\/s.2.2=97\/s.2.2=98)
theorem Gd.iN{g:Gd}{s:cE}{t:cE×Int}:t∈g.steps s↔(s.1<g.n/\s.2.1<g.m/\t=((s.1+1,s.2.1+1,112),g.pc s.1 s.2.1))\/(s.1<g.n/\t=((s.1+1,s.2.1,97),g.ac 97 s.2.2))\/(s.2.1<g.m/\t=((s.1,s.2.1+1,98),g.ac 98 s.2.2)):=by
 unfold Gd.steps
 simp only[List.mem_append]
 by_cases h1:s.1<g.n<;>by_cases h2:s.2.1<g.m<;>simp[h1,h2]
theorem Gd.nu{g:Gd}{s:cE}{t:cE×Int}(h:t∈g.steps s)(hs:g.In s):g.In t.1:=by
 obtain⟨h1,h2,_⟩:=hs
 rcases Gd.iN.mp h with⟨a,b,rfl⟩|⟨a,rfl⟩|⟨a,rfl⟩
 ·exact⟨a,b,.inl rfl⟩
 ·exact⟨a,h2,.inr (.inl rfl)⟩
 ·exact⟨h1,a,.inr (.inr rfl)⟩
theorem Gd.jQ{g:Gd}{s:cE}{t:cE×Int}(h:t∈g.steps s):g.ht t.1<g.ht s:=by
 unfold Gd.ht
 rcases Gd.iN.mp h with⟨a,b,rfl⟩|⟨a,rfl⟩|⟨a,rfl⟩<;>simp only<;>omega
theorem Gd.qo{g:Gd}{R R':cE->Int}{s:cE}(h:∀t∈g.steps s,R t.1=R' t.1):g.costs R s=g.costs R' s:=by
 unfold Gd.costs
 rw[List.map_congr_left λt ht=>by rw[h t ht]]
theorem Gd.wZ{g:Gd}:∀(d:Nat) (s:cE),g.ht s<d->g.ML d s=g.rest s
 | 0,_,h=>by omega
 |d+1,s,h=>by
  have e1:∀t∈g.steps s,g.ML d t.1=g.rest t.1:=λt ht=>Gd.wZ d t.1 (by have:=Gd.jQ ht;omega)
  by_cases hd:d=g.ht s
  ·subst hd;rfl
  ·have e2:∀t∈g.steps s,g.ML (g.ht s) t.1=g.rest t.1:=λt ht=>by
    have:=Gd.jQ ht
    have hlt:g.ht s<d:=by omega
    exact Gd.wZ (g.ht s) t.1 this
   show jg (g.costs (g.ML d) s)=jg (g.costs (g.ML (g.ht s)) s)
   rw[Gd.qo e1,Gd.qo e2]
 termination_by d=>d
theorem Gd.rest_eq(g:Gd)(s:cE):g.rest s=jg (g.costs g.rest s):=by
 show jg (g.costs (g.ML (g.ht s)) s)=_
 rw[Gd.qo λt ht=>Gd.wZ _ t.1 (Gd.jQ ht)]
def Gd.Ok(g:Gd):Prop:=g.en g.n g.m=true
theorem Gd.Du{g:Gd}(ok:g.Ok){R:cE->Int}{s:cE}(hs:g.In s):g.costs R s≠[]:=by
 unfold Gd.costs Gd.steps
 obtain⟨h1,h2,_⟩:=hs
 by_cases a:s.1<g.n
 ·simp[a]
 ·by_cases b:s.2.1<g.m
  ·simp[b]
  ·have e1:s.1=g.n:=by omega
   have e2:s.2.1=g.m:=by omega
   have ok':g.en g.n g.m=true:=ok
   rw[e1,e2,ok']
   simp
def Gd.stop(g:Gd)(s:cE):Bool:=g.en s.1 s.2.1&&decide (g.rest s=0)
def Gd.key(g:Gd)(t:cE×Int):Int:=t.2+g.rest t.1
def Gd.HV(g:Gd)(s:cE):cE:=((fmin g.key (g.steps s)).map (·.1)).getD s
theorem Gd.go{g:Gd}(ok:g.Ok){s:cE}(hs:g.In s)(h:g.stop s=false):∃t,fmin g.key (g.steps s)=some t/\t∈g.steps s/\g.HV s=t.1/\g.key t=g.rest s/\∀u∈g.steps s,g.key t<=g.key u:=by
 have hm:=mZ (Gd.Du ok (R:=g.rest) hs)
 rw[←g.rest_eq]at hm
 have hx:g.rest s∈(g.steps s).map g.key:=by
  rcases List.mem_append.mp hm with hm|hm
  ·exact hm
  ·exfalso
   unfold Gd.stop at h
   by_cases e:g.en s.1 s.2.1=true
   ·rw[if_pos e]at hm
    have:g.rest s=0:=by simpa using hm
    rw[e,this]at h
    simp at h
   ·rw[if_neg e]at hm
    exact nomatch hm
 obtain⟨u,hu,eu⟩:=List.mem_map.mp hx
 obtain⟨t,ht⟩:=uL (f:=g.key) (List.ne_nil_of_mem hu)
 refine⟨t,ht,m6 ht,by unfold Gd.HV;rw[ht];rfl,?_,λv hv=>tH ht hv⟩
 have h1:=tH ht hu
 have h2:g.rest s<=g.key t:=by
  rw[g.rest_eq]
  exact lF (List.mem_append_left _ (List.mem_map.mpr ⟨t,m6 ht,rfl⟩))
 omega
def Gd.way(g:Gd):Nat->cE->List Nat
 | 0,_=>[]
 |d+1,s=>if g.stop s then []else(g.HV s).2.2::g.way d (g.HV s)
def Gd.moves(g:Gd)(s:cE):List Nat:=g.way (g.ht s) s
theorem Gd.wB{g:Gd}(ok:g.Ok):∀(d:Nat) (s:cE),g.In s->g.ht s<=d->g.way d s=g.moves s
 | 0,s,_,h=>by unfold Gd.moves;rw[Nat.le_zero.mp h]
 |d+1,s,hs,h=>by
  by_cases e:g.stop s=true
  ·unfold Gd.moves
   cases k:g.ht s with
   |zero=>simp[Gd.way,e]
   |succ k=>simp[Gd.way,e]
  ·have e':g.stop s=false:=by simpa using e
   obtain⟨t,_,ht,en,_⟩:=g.go ok hs e'
   have h1:=Gd.jQ ht
   have h2:=Gd.nu ht hs
   obtain⟨k,ek⟩:∃k,g.ht s=k+1:=⟨g.ht s-1,by omega⟩
   unfold Gd.moves
   rw[ek]
   show(if g.stop s then []else(g.HV s).2.2::g.way d (g.HV s))=(if g.stop s then []else(g.HV s).2.2::g.way k (g.HV s))
   rw[en,Gd.wB ok d t.1 h2 (by omega),Gd.wB ok k t.1 h2 (by omega)]
 termination_by d=>d
theorem Gd.xD{g:Gd}{s:cE}(h:g.stop s=true):g.moves s=[]:=by
 unfold Gd.moves
 cases g.ht s with
 |zero=>rfl
 |succ k=>simp[Gd.way,h]
theorem Gd.CU{g:Gd}(ok:g.Ok){s:cE}(hs:g.In s)(h:g.stop s=false):g.moves s=(g.HV s).2.2::g.moves (g.HV s):=by
 obtain⟨t,_,ht,en,_⟩:=g.go ok hs h
 have h1:=Gd.jQ ht
 have h2:=Gd.nu ht hs
 have e:g.moves s=g.way (g.ht s-1+1) s:=by unfold Gd.moves;rw[show g.ht s-1+1=g.ht s by omega]
 rw[e]
 show(if g.stop s then []else(g.HV s).2.2::g.way (g.ht s-1) (g.HV s))=_
 rw[h,en,Gd.wB ok _ t.1 h2 (by omega)]
 rfl
def Gd.walk(g:Gd):cE->List Nat->Option (Int×cE)
 |s,[]=>some (0,s)
 |s,v::vs=>match (g.steps s).find? (λt=>t.1.2.2==v)with
  |none=>none
  |some t=>(g.walk t.1 vs).map λr=>(t.2+r.1,r.2)
theorem Gd.uo{g:Gd}{s:cE}{t:cE×Int}(h:t∈g.steps s):(g.steps s).find? (λu=>u.1.2.2==t.1.2.2)=some t:=by
 unfold Gd.steps at h ⊢
 by_cases h1:s.1<g.n<;>by_cases h2:s.2.1<g.m<;>simp[h1,h2]at h ⊢
 ·rcases h with rfl|rfl|rfl<;>simp[List.find?_cons]
 ·subst h;simp
 ·subst h;simp
theorem Gd.wC{g:Gd}(ok:g.Ok):∀(d:Nat) (s:cE),g.In s->g.ht s<=d->∃e,g.walk s (g.moves s)=some (g.rest s,e)/\g.In e/\g.en e.1 e.2.1=true
 |d,s,hs,hd=>by
  by_cases e:g.stop s=true
  ·rw[Gd.xD e]
   unfold Gd.stop at e
   rw[Bool.and_eq_true]at e
   refine⟨s,?_,hs,e.1⟩
   rw[of_decide_eq_true e.2]
   rfl
  ·have e':g.stop s=false:=by simpa using e
   obtain⟨t,_,ht,en,ek,_⟩:=g.go ok hs e'
   have h1:=Gd.jQ ht
   have h2:=Gd.nu ht hs
   cases d with
   |zero=>omega
   |succ d =>
    obtain⟨f,hf,hfi,hfe⟩:=Gd.wC ok d t.1 h2 (by omega)
    refine⟨f,?_,hfi,hfe⟩
    rw[Gd.CU ok hs e',en]
    unfold Gd.walk
    rw[Gd.uo ht]
    show(g.walk t.1 (g.moves t.1)).map _=_
    rw[hf]
    show some (t.2+g.rest t.1,f)=_
    rw[show t.2+g.rest t.1=g.rest s from ek]
 termination_by d=>d
def placesOf(n m:Nat):List (Nat×Nat):=(List.range (n+1)).flatMap λi=>(List.range (m+1)).map λj=>(i,j)
def three(p:Nat×Nat):List cE:=[(p.1,p.2,112),(p.1,p.2,97),(p.1,p.2,98)]
def dj(ps:List (Nat×Nat)):List cE:=ps.flatMap three
theorem dO{n m:Nat}{p:Nat×Nat}:p∈placesOf n m↔p.1<=n/\p.2<=m:=by
 unfold placesOf
 simp only[List.mem_flatMap,List.mem_range,List.mem_map]
 constructor
 ·rintro⟨i,hi,j,hj,rfl⟩
  exact⟨by show i<=n;omega,by show j<=m;omega⟩
 ·rintro⟨h1,h2⟩
  exact⟨p.1,by omega,p.2,by omega,rfl⟩
theorem mF{p:Nat×Nat}{s:cE}:s∈three p↔s.1=p.1/\s.2.1=p.2/\(s.2.2=112\/s.2.2=97\/s.2.2=98):=by
 obtain⟨a,b,c⟩:=s
 simp only[three,List.mem_cons,List.not_mem_nil,or_false,Prod.mk.injEq]
 constructor
 ·rintro(⟨h1,h2,h3⟩|⟨h1,h2,h3⟩|⟨h1,h2,h3⟩)
  ·exact⟨h1,h2,.inl h3⟩
  ·exact⟨h1,h2,.inr (.inl h3)⟩
  ·exact⟨h1,h2,.inr (.inr h3)⟩
 ·rintro⟨h1,h2,h3|h3|h3⟩
  ·exact .inl ⟨h1,h2,h3⟩
  ·exact .inr (.inl ⟨h1,h2,h3⟩)
  ·exact .inr (.inr ⟨h1,h2,h3⟩)
theorem dN{ps:List (Nat×Nat)}{s:cE}:s∈dj ps↔(s.1,s.2.1)∈ps/\(s.2.2=112\/s.2.2=97\/s.2.2=98):=by
 unfold dj
 rw[List.mem_flatMap]
 constructor
 ·rintro⟨p,hp,h⟩
  obtain⟨h1,h2,h3⟩:=mF.mp h
  rw[h1,h2]
  exact⟨hp,h3⟩
 ·rintro⟨hp,h⟩
  exact⟨_,hp,mF.mpr ⟨rfl,rfl,h⟩⟩
def Gd.states(g:Gd):List cE:=dj (placesOf g.n g.m)
theorem Gd.dN{g:Gd}{s:cE}:s∈g.states↔g.In s:=by
 unfold Gd.states Gd.In
 rw[GP.dN,dO]
 exact⟨λ⟨⟨a,b⟩,c⟩=>⟨a,b,c⟩,λ⟨a,b,c⟩=>⟨⟨a,b⟩,c⟩⟩
theorem places_len(n m:Nat):(placesOf n m).length=(n+1)*(m+1):=by
 unfold placesOf
 have:∀l:List Nat,(l.flatMap λi=>(List.range (m+1)).map λj=>(i,j)).length=l.length*(m+1):=λl=>by
  induction l with
  |nil=>simp
  |cons a l ih=>rw[List.flatMap_cons,List.length_append,ih,List.length_map,List.length_range,List.length_cons,Nat.succ_mul,Nat.add_comm]
 rw[this,List.length_range]
theorem rJ(ps:List (Nat×Nat)):(dj ps).length=3*ps.length:=by
 induction ps with
 |nil=>rfl
 |cons a l ih =>
  show(three a++dj l).length=_
  rw[List.length_append,ih,List.length_cons]
  show 3+_=_
  omega
def MN(a b:Nat×Nat):Prop:=a.1<b.1\/(a.1=b.1/\a.2<b.2)
theorem qK(n m:Nat):(placesOf n m).Pairwise MN:=by
 unfold placesOf
 refine List.pairwise_flatMap.mpr ⟨λi _=>?_,?_⟩
 ·rw[List.pairwise_map]
  exact(List.pairwise_lt_range).imp λh=>.inr ⟨rfl,h⟩
 ·refine(List.pairwise_lt_range).imp λ{a b} h=>?_
  intro x hx y hy
  obtain⟨_,_,rfl⟩:=List.mem_map.mp hx
  obtain⟨_,_,rfl⟩:=List.mem_map.mp hy
  exact .inl h
theorem xh{a:Nat×Nat}:¬MN a a:=λh=>by rcases h with h|h<;>omega
theorem GJ{ps:List (Nat×Nat)}(h:ps.Pairwise MN):(dj ps).Pairwise λa b=>¬MN (b.1,b.2.1) (a.1,a.2.1):=by
 unfold dj
 refine List.pairwise_flatMap.mpr ⟨λp _=>?_,h.imp λ{a b} hab=>?_⟩
 ·refine List.pairwise_of_forall_mem_list λa ha b hb z=>?_
  obtain⟨a1,a2,_⟩:=mF.mp ha
  obtain⟨b1,b2,_⟩:=mF.mp hb
  rw[a1,a2,b1,b2]at z
  exact xh z
 ·intro x hx y hy z
  obtain⟨a1,a2,_⟩:=mF.mp hx
  obtain⟨b1,b2,_⟩:=mF.mp hy
  rw[a1,a2,b1,b2]at z
  unfold MN at hab z
  simp only at z
  omega
theorem Gd.Cb{g:Gd}{s:cE}{t:cE×Int}(h:t∈g.steps s):MN (s.1,s.2.1) (t.1.1,t.1.2.1):=by
 unfold MN
 rcases Gd.iN.mp h with⟨a,b,rfl⟩|⟨a,rfl⟩|⟨a,rfl⟩
 ·exact .inl (Nat.lt_succ_self _)
 ·exact .inl (Nat.lt_succ_self _)
 ·exact .inr ⟨rfl,Nat.lt_succ_self _⟩
theorem Gd.uU{g:Gd}{k:Nat}{s:cE}{t:cE×Int}(hk:g.states[k]? =some s)(h:t∈g.steps s):t.1∈g.states.drop (k+1):=by
 have hs:=Gd.dN.mp (List.mem_of_getElem? hk)
 have ht:=Gd.dN.mpr (Gd.nu h hs)
 have XZ:=(List.getElem?_eq_some_iff.mp hk).1
 have pw:=GJ (qK g.n g.m)
 have e:dj (placesOf g.n g.m)=g.states.take (k+1)++g.states.drop (k+1):=(List.take_append_drop _ _).symm
 have ht':t.1∈g.states.take (k+1)++g.states.drop (k+1):=by rw[←e];exact ht
 rcases List.mem_append.mp ht' with z|z
 ·exfalso
  rw[take_snoc hk]at z
  rcases List.mem_append.mp z with z|z
  ·have e2:dj (placesOf g.n g.m)=g.states.take k++g.states.drop k:=(List.take_append_drop _ _).symm
   rw[e2]at pw
   have hsd:s∈g.states.drop k:=by
    rw[List.drop_eq_getElem_cons XZ]
    have:=(List.getElem?_eq_some_iff.mp hk).2
    rw[this]
    exact List.mem_cons_self
   exact(List.pairwise_append.mp pw).2.2 _ z _ hsd (Gd.Cb h)
  ·have z1:=Gd.Cb h
   rw[List.mem_singleton.mp z]at z1
   exact xh z1
 ·exact z
end GP
namespace L2
open PySem PySem.Spec PyProof.Rows PySem.W
theorem vp(f:Nat->Int):∀k,argBest (λi j=>decide (f i<f j)) k<=k/\∀j,j<=k->f (argBest (λi j=>decide (f i<f j)) k)<=f j
 | 0=>⟨Nat.le_refl _,λj hj=>by rw[Nat.le_zero.mp hj];exact Int.le_refl _⟩
 |k+1=>by
  obtain⟨h1,h2⟩:=vp f k
  unfold argBest
  by_cases c:f (k+1)<f (argBest (λi j=>decide (f i<f j)) k)
  ·rw[if_pos (decide_eq_true c)]
   refine⟨Nat.le_refl _,λj hj=>?_⟩
   by_cases e:j=k+1
   ·rw[e];exact Int.le_refl _
   ·have:=h2 j (by omega);omega
  ·rw[if_neg (by rw[decide_eq_false c];exact Bool.false_ne_true)]
   refine⟨by omega,λj hj=>?_⟩
   by_cases e:j=k+1
   ·rw[e];omega
   ·exact h2 j (by omega)
theorem Gb:∀{ns:List Int} {us:List Value},Vals (ns.map V.int) us->∀(i:Nat) (v:Value),us[i]? =some v->∃n t,ns[i]? =some n/\v= .int n t
 |[],_,r=>λi v e=>by cases r;simp at e
 |n::ns,_,r=>by
  cases r with
  |cons r1 r2 =>
   intro i v e
   cases i with
   |zero =>
    simp at e
    subst e
    obtain⟨t,z⟩:=r1
    exact⟨n,t,rfl,z⟩
   |succ i=>exact Gb r2 i v e
theorem zS{X:Cx}(hc:X.calm=true):lP X (.builtin "min") (λxs H Q=>∃(l:Addr) (ns:List Int),xs=[.ref l]/\bI X.K H l (ns.map V.int)/\ns≠[]/\Q (.int (GP.jg ns)) H):=by
 intro pins s σ H xs us Q I r h
 obtain⟨l,ns,rfl,hl,hne,q⟩:=h
 obtain⟨u,rfl,ru⟩:=vals1 r
 cases ru
 obtain⟨its,rv,p,hz⟩:=I.list hl
 have pl:s.heap.IsList l its.toArray:=p.isList
 have hlt:l<s.heap.objs.size:=by obtain⟨_,e,_⟩:=pl;exact Heap.lt_size e
 have hlen:ns.length=its.length:=by rw[←rv.length,List.length_map]
 have hpos:0<ns.length:=List.length_pos_iff.mpr hne
 refine TK.bY (Nat.le_refl s.toks) ?_
 refine call_min_walk (wpAny_pyIter_list pl ?_)
 have hval:∀(i:Nat) (v:Value),its.toArray[i]? =some v->∃t,v= .int ((ns[i]?).getD 0) t:=λi v hP=>by
  obtain⟨n,t,e,rfl⟩:=Gb rv i v (by simpa using hP)
  exact⟨t,by rw[e];rfl⟩
 refine⟨s.heap.objs.size,[s.heap.objs.size,l],[s.heap.objs.size],its.toArray.size,_,_,_,rfl,Walks.list (A:=X.A.in1) (I.ok.hd hc) _ l (Nat.ne_of_lt hlt) its.toArray,
  ⟨⟨_,Heap.get?_push_size _ rfl,rfl,rfl⟩,pl.push _⟩,λb hb=>?_,by rw[List.size_toArray];omega,CmpOf.ints_lt (λi=>(ns[i]?).getD 0) hval,λv h' tk hP hk hup=>?_⟩
 ·show b<(s.heap.push _).objs.size
  rw[Heap.size_push]
  rcases List.mem_cons.mp hb with rfl|z
  ·exact Nat.lt_succ_self _
  ·rw[List.mem_singleton.mp z]
   exact Nat.lt_succ_of_lt hlt
 ·obtain⟨t,rfl⟩:=hval _ v hP
  obtain⟨b1,b2⟩:=vp (λi=>(ns[i]?).getD 0) (its.toArray.size-1)
  have hsz:its.toArray.size=ns.length:=by rw[List.size_toArray,hlen]
  rw[hsz]at b1 b2 ⊢
  have hb:argBest (λi j=>decide ((ns[i]?).getD 0<(ns[j]?).getD 0)) (ns.length-1)<ns.length:=by omega
  have e:GP.jg ns=(ns[argBest (λi j=>decide ((ns[i]?).getD 0<(ns[j]?).getD 0)) (ns.length-1)]?).getD 0:=by
   refine GP.tu ?_ λy hy=>?_
   ·rw[List.getElem?_eq_getElem hb]
    exact List.getElem_mem hb
   ·obtain⟨j,hj,ej⟩:=List.getElem_of_mem hy
    have z:=b2 j (by omega)
    rw[List.getElem?_eq_getElem hj,ej]at z
    exact z
  refine⟨.int (GP.jg ns),H,I.kept (t':=tk) (λb x e=>hk b x (λhm=>?_) (Heap.get?_push_of_some _ e)),⟨t,by rw[e]⟩,q⟩
  rw[List.mem_singleton.mp hm]at e
  exact Nat.lt_irrefl _ (Heap.lt_size e)
theorem jt{A:Around}{k:Nat}(hr:jO k A):A.units+2<cLine:=Nat.lt_of_le_of_lt (Nat.add_le_add_left (by decide:2<=64) _) hr.units
theorem Gg{A:Around}{k:Nat}(hr:jO k A):A.units+16<cLine:=Nat.lt_of_le_of_lt (Nat.add_le_add_left (by decide:16<=64) _) hr.units
theorem FO{k:Nat}{A:Around}(h:jO k A):A.depth<recursionLimit:=by have:=h.dp;omega
theorem CP(kvs:List NE)(k j:NK)(q:Addr)(v:V):jN (rU kvs k q v) j=if j=k then some v else jN kvs j:=by
 have ap:∀l:List NE,jN (l++[(k,q,v)]) j=(jN l j).or (if k=j then some v else none):=λl=>by
  induction l with
  |nil =>
   by_cases e:k=j
   ·rw[if_pos e];exact j5 (p:=(k,q,v)) (ps:=[]) e
   ·rw[if_neg e];exact iH (p:=(k,q,v)) (ps:=[]) e
  |cons x l ih =>
   by_cases e:x.1=j
   ·rw[List.cons_append,j5 e,j5 e];rfl
   ·rw[List.cons_append,iH e,iH e,ih]
 have mp:∀l:List NE,jN (l.map λx=>if x.1=k then(x.1,x.2.1,v)else x) j=if j=k then(jN l k).map λ_=>v else jN l j:=λl=>by
  induction l with
  |nil=>by_cases e:j=k<;>simp[e,jN]
  |cons x l ih =>
   rw[List.map_cons]
   by_cases e:x.1=k
   ·rw[if_pos e]
    by_cases ej:x.1=j
    ·rw[j5 (p:=(x.1,x.2.1,v)) ej,if_pos (ej.symm.trans e),j5 e];rfl
    ·rw[iH (p:=(x.1,x.2.1,v)) ej,ih,if_neg (λz=>ej (e.trans z.symm)),if_neg (λz=>ej (e.trans z.symm)),iH ej]
   ·rw[if_neg e]
    by_cases ej:x.1=j
    ·have nj:¬j=k:=λz=>e (ej.trans z)
     rw[j5 ej,if_neg nj,j5 ej]
    ·rw[iH ej,ih,iH ej,iH e]
 unfold rU
 by_cases h:(jN kvs k).isSome=true
 ·rw[if_pos h,mp]
  by_cases e:j=k
  ·rw[if_pos e,if_pos e]
   obtain⟨u,hu⟩:=Option.isSome_iff_exists.mp h
   rw[hu];rfl
  ·rw[if_neg e,if_neg e]
 ·rw[if_neg h,ap]
  have hn:jN kvs k=none:=by simpa using h
  by_cases e:j=k
  ·rw[if_pos e.symm,if_pos e,e,hn];rfl
  ·rw[if_neg (Ne.symm e),if_neg e]
   cases jN kvs j<;>rfl
theorem zF{H:Hp}{kvs:List NE}{k:NK}{q:Addr}{v:V}(h:∀x∈kvs,jj H x.2.1 x.1)(hk:jj H q k):∀x∈rU kvs k q v,jj H x.2.1 x.1:=by
 unfold rU
 intro x hx
 split at hx
 ·obtain⟨y,hy,e⟩:=List.mem_map.mp hx
  have z:=h y hy
  split at e
  ·rw[←e];exact z
  ·rw[←e];exact z
 ·rcases List.mem_append.mp hx with hx|hx
  ·exact h x hx
  ·rw[List.mem_singleton.mp hx];exact hk
end L2
namespace GP
open PySem L2 sy
structure Da(K:PySem.W.Frag)(mg:Str->Option Value)(x y:Str)(st:Stmt)(ps:List Str)(f:Addr)(fd:FuncData):Prop where
 fn:K3 K y y st f fd
 b:Binds K fd ps []
 m:mg x=some (.ref f)
def Nt(H:Hp):Hp:=λb=>match H b with|some (.ext _)=>none|r=>r
theorem Nt.sub{H:Hp}:ai (Nt H) H:=λb u h=>by
 unfold Nt at h
 split at h
 ·cases h
 ·exact h
theorem Nt.no{H:Hp}{b:Addr}{u:HO}(h:Nt H b=some u)(φ:Heap->Prop):u≠ .ext φ:=λz=>by
 unfold Nt at h
 split at h
 ·cases h
 ·next n=>rw[z]at h;exact n φ h
theorem Nt.in{H:Hp}{b:Addr}{u:HO}(n:∀ φ,u≠ .ext φ)(h:H b=some u):Nt H b=some u:=by
 unfold Nt
 rw[h]
 split
 ·next φ e=>exact absurd (Option.some.inj e) (n φ)
 ·rfl
theorem Nt.tup{H:Hp}{b:Addr}{xs:List V}(h:H b=some (.tup xs)):Nt H b=some (.tup xs):=Nt.in (λ_ z=>by cases z) h
theorem Nt.lst{H:Hp}{b:Addr}{xs:List V}(h:H b=some (.lst xs)):Nt H b=some (.lst xs):=Nt.in (λ_ z=>by cases z) h
theorem Nt.seq{K:PySem.W.Frag}{H:Hp}{a:Addr}{xs:List V}(h:bI K H a xs):bI K (Nt H) a xs:=by
 rcases h with(h|⟨o,h⟩)|h
 ·exact .inl (.inl (Nt.lst h))
 ·exact .inl (.inr ⟨o,Nt.in (λ_ z=>by cases z) h⟩)
 ·exact .inr h
theorem Nt.Rt{K:PySem.W.Frag}{H:Hp}{a:Addr}{xs:List V}(h:dR K H a xs):dR K (Nt H) a xs:=by
 rcases h with(h|⟨o,h⟩)|h
 ·exact .inl (.inl (Nt.tup h))
 ·exact .inl (.inr ⟨o,Nt.in (λ_ z=>by cases z) h⟩)
 ·exact .inr h
theorem Nt.row{K:PySem.W.Frag}{H:Hp}{q:Addr}{r:List cJ}(h:ki K H (.tup q) r):ki K (Nt H) (.tup q) r:=by
 obtain⟨ps,a,b⟩:=h
 exact⟨ps,Nt.Rt a,Paired.dP b λ_ _ z=>Nt.Rt z⟩
theorem m7.nt{K:PySem.W.Frag}{C:Addr}{H:Hp}{x:Addr}{sg:Str}{rows:List (List cJ)}{fo fm:cJ}(h:m7 K C H x sg rows fo fm):m7 K C (Nt H) x sg rows fo fm:=by
 obtain⟨a,b,c,d,f,g,i,dx,P,o,m,dd,kvs,h1,⟨qs,q1,q2⟩,h3,h4,h5,h6,fs,h7,h8,h9⟩:=h
 exact⟨a,b,c,d,f,g,i,dx,P,o,m,dd,kvs,Nt.in (λ_ z=>by cases z) h1,⟨qs,Nt.Rt q1,Paired.dP q2 λ_ _ z=>Nt.row z⟩,Nt.Rt h3,Nt.Rt h4,Nt.in (λ_ z=>by cases z) h5,h6,fs,h7,h8,Nt.lst h9⟩
def sF(H:Hp):Hp:=λb=>match H b with|some (.tup xs)=>some (.tup xs)|some (.lst xs)=>some (.lst xs)|_=>none
theorem sF.tup{H:Hp}{b:Addr}{xs:List V}(h:H b=some (.tup xs)):sF H b=some (.tup xs):=by unfold sF;rw[h]
theorem sF.lst{H:Hp}{b:Addr}{xs:List V}(h:H b=some (.lst xs)):sF H b=some (.lst xs):=by unfold sF;rw[h]
theorem sF.of{H H':Hp}(h:∀b u,(∀ φ,u≠ .ext φ)->(∀C dx fs,u≠ .ins C dx fs)->H b=some u->H' b=some u):ai (sF H) H':=λb u q=>by
 unfold sF at q
 split at q
 ·next e=>cases q;exact h b _ (λ_ z=>by cases z) (λ_ _ _ z=>by cases z) e
 ·next e=>cases q;exact h b _ (λ_ z=>by cases z) (λ_ _ _ z=>by cases z) e
 ·cases q
theorem sF.dat{H H':Hp}(e:Dat H H'):ai (sF H) H':=sF.of λb u _ n q=>e b u n q
theorem jj.da{H:Hp}{q:Addr}{k:NK}(h:jj H q k):jj (sF H) q k:=by
 obtain⟨p,h1,h2⟩:=h
 exact⟨p,sF.tup h1,sF.tup h2⟩
theorem jj.same{H H':Hp}{q:Addr}{k:NK}(h:jj H q k)(e:ai H H'):jj H' q k:=by
 obtain⟨p,h1,h2⟩:=h
 exact⟨p,e _ _ h1,e _ _ h2⟩
theorem ND.same{P:Program}{w:World}{H H':Hp}{d:Addr}{kvs:List NE}(h:ND P w H d kvs)(e:ai H H'):ND P w H' d kvs:=⟨e _ _ h.at_,λx hx=>jj.same (h.keys x hx) e⟩
structure Lm where
 P:Addr
 l:Pos
 q:Str
 P2:Addr
 l2:Pos
 q2:Str
structure LT(L:Lm)(H:Hp):Prop where
 a:TabOk H L.P L.l L.q
 b:TabOk H L.P2 L.l2 L.q2
 ne:L.P≠L.P2
theorem B4{H H':Hp}{P:Addr}{ln:Pos}{lq:Str}(h:TabOk H P ln lq)(e:ai H H'):TabOk H' P ln lq:=by
 rcases h with h|⟨c,h,h2⟩
 ·exact .inl (e _ _ h)
 ·exact .inr ⟨c,e _ _ h,e _ _ h2⟩
theorem LT.same{L:Lm}{H H':Hp}(h:LT L H)(e:ai H H'):LT L H':=⟨B4 h.a e,B4 h.b e,h.ne⟩
theorem we{H:Hp}{P:Addr}{ln:Pos}{lq:Str}(h:TabOk H P ln lq):∃ φ,H P=some (.ext φ):=by
 rcases h with h|⟨_,h,_⟩<;>exact⟨_,h⟩
theorem B3{H:Hp}{P:Addr}{ln:Pos}{lq:Str}(h:TabOk H P ln lq):∃ps,H P=some (nV P ps):=by
 rcases h with h|⟨_,h,_⟩<;>exact⟨_,h⟩
theorem Ag{α:Type}{a b:α}{F:α->Prop}(h1:F a)(h2:F b):∀x∈[a,b],F x:=λx hx=>by
 rcases List.mem_cons.mp hx with rfl|hx
 ·exact h1
 ·rw[List.mem_singleton.mp hx];exact h2
structure Lo(P:Program)(w:World)(L:Lm)(H H':Hp):Prop where
 nx:ai (Nt H) H'
 nd:∀d kvs,H d=some (AV P w d kvs)->H' d=some (AV P w d kvs)
 lt:LT L H'
 dom:∀b,H' b=none->H b=none
section
variable{P:Program}{w:World}{L:Lm}{H H1 H2:Hp}
theorem Lo.of(h:LT L H)(e:ai H H1):Lo P w L H H1:=⟨λb u q=>e b u (Nt.sub b u q),λd kvs q=>e _ _ q,h.same e,λb q=>ai.free e q⟩
theorem Lo.trans(a:Lo P w L H H1)(b:Lo P w L H1 H2):Lo P w L H H2:=⟨λc u q=>b.nx c u (Nt.in (Nt.no q) (a.nx c u q)),λd kvs q=>b.nd d kvs (a.nd d kvs q),b.lt,λc q=>a.dom c (b.dom c q)⟩
theorem Lo.then(a:Lo P w L H H1)(e:ai H1 H2):Lo P w L H H2:=a.trans (.of a.lt e)
theorem ai.lo(e:ai H H1)(h:LT L H)(b:Lo P w L H1 H2):Lo P w L H H2:=(Lo.of h e).trans b
theorem Lo.one{H':Hp}(h:LT L H)(ap:Apart P w H L.P)(e:∀b u,b≠L.P->H b=some u->H' b=some u)(t:TabOk H' L.P L.l L.q):Lo P w L H H':=by
 obtain⟨φ,hφ⟩:=we h.a
 have hne:=h.ne
 refine⟨λb u q=>e b u (λz=>?_) (Nt.sub b u q),λd kvs q=>e _ _ (ap.2 d kvs q) q,⟨t,?_,h.ne⟩,λb q=>?_⟩
 ·have q':=Nt.sub b u q
  rw[z,hφ]at q'
  exact Nt.no q φ (Option.some.inj q').symm
 ·rcases h.b with h|⟨c,h,h2⟩
  ·exact .inl (e _ _ (Ne.symm hne) h)
  ·exact .inr ⟨c,e _ _ (Ne.symm hne) h,e _ _ (ap.1 c _ h2) h2⟩
 ·cases z:H b with
  |none=>rfl
  |some u =>
   by_cases zb:b=L.P
   ·obtain⟨ψ,Xm⟩:=we t
    rw[zb,Xm]at q;cases q
   ·rw[e b u zb z]at q;cases q
theorem Lo.two{H':Hp}(h:LT L H)(ap:Apart P w H L.P2)(e:∀b u,b≠L.P2->H b=some u->H' b=some u)(t:TabOk H' L.P2 L.l2 L.q2):Lo P w L H H':=by
 obtain⟨φ,hφ⟩:=we h.b
 have hne:=h.ne
 refine⟨λb u q=>e b u (λz=>?_) (Nt.sub b u q),λd kvs q=>e _ _ (ap.2 d kvs q) q,⟨?_,t,h.ne⟩,λb q=>?_⟩
 ·have q':=Nt.sub b u q
  rw[z,hφ]at q'
  exact Nt.no q φ (Option.some.inj q').symm
 ·rcases h.a with h|⟨c,h,h2⟩
  ·exact .inl (e _ _ hne h)
  ·exact .inr ⟨c,e _ _ hne h,e _ _ (ap.1 c _ h2) h2⟩
 ·cases z:H b with
  |none=>rfl
  |some u =>
   by_cases zb:b=L.P2
   ·obtain⟨ψ,Xm⟩:=we t
    rw[zb,Xm]at q;cases q
   ·rw[e b u zb z]at q;cases q
theorem Lo.da(a:Lo P w L H H1):ai (sF H) H1:=sF.of λb u n _ q=>a.nx b u (Nt.in n q)
theorem Lo.tup(a:Lo P w L H H1){b:Addr}{xs:List V}(h:H b=some (.tup xs)):H1 b=some (.tup xs):=a.nx _ _ (Nt.tup h)
theorem Lo.Zz(a:Lo P w L H H1){q:Addr}{k:NK}(h:jj H q k):jj H1 q k:=jj.same (jj.da h) a.da
theorem Lo.nk(a:Lo P w L H H1){d:Addr}{kvs:List NE}(h:ND P w H d kvs):ND P w H1 d kvs:=⟨a.nd _ _ h.at_,λx hx=>a.Zz (h.keys x hx)⟩
theorem Lo.seq{K:PySem.W.Frag}{x:Addr}{xs:List V}(a:Lo P w L H H1)(h:bI K H x xs):bI K H1 x xs:=ai.seq a.nx (Nt.seq h)
end
abbrev PT:=Str×List (List cJ)×cJ×cJ
def uT(T:PT):Int:=cF T.2.2.1.2 T.2.2.2.2 T.2.1
def BR(K:PySem.W.Frag)(C:Addr)(H:Hp)(x:Addr)(T:PT):Prop:=m7 K C H x T.1 T.2.1 T.2.2.1 T.2.2.2
theorem BR.same{K:PySem.W.Frag}{C:Addr}{H H':Hp}{x:Addr}{T:PT}(h:BR K C H x T)(e:ai H H'):BR K C H' x T:=m7.same e h
theorem Lo.pr{P:Program}{w:World}{L:Lm}{H H1:Hp}{K:PySem.W.Frag}{C x:Addr}{T:PT}(a:Lo P w L H H1)(h:BR K C H x T):BR K C H1 x T:=m7.same a.nx (m7.nt h)
def cK(T:PT)(m f s:Str):Gd:=⟨f.cps.size,s.cps.size,λi j=>RI T.1 T.2.1 (uT T) (f.cps.toList.getD i 0) (s.cps.toList.getD j 0),mP (uT T) T.2.2.1,mP (uT T) T.2.2.2,λi j=>AY m f s (i,j)⟩
def Gy(H:Hp)(p:Addr)(q:Nat×Nat):Prop:=H p=some (.tup [.int q.1,.int q.2])
def Ia(H:Hp)(l:Addr)(qs:List (Nat×Nat)):Prop:=∃ps:List Addr,H l=some (.lst (ps.map V.ref))/\Paired (Gy H) ps qs
def f6(s:cE):NK:=(s.1,s.2.1,⟨#[s.2.2]⟩)
theorem sR{s t:cE}(h:f6 s=f6 t):s=t:=by
 obtain⟨a,b,c⟩:=s
 obtain⟨d,e,f⟩:=t
 unfold f6 at h
 simp only[Prod.mk.injEq,Str.mk.injEq]at h
 obtain⟨h1,h2,h3⟩:=h
 have h4:c=f:=by simpa using h3
 rw[show a=d by omega,show b=e by omega,h4]
def Mw(H:Hp)(p:Addr)(t:cE×Int):Prop:=∃q,H p=some (.tup [.ref q,.int t.2])/\jj H q (f6 t.1)
def Mv(H:Hp)(l:Addr)(ts:List (cE×Int)):Prop:=∃ps:List Addr,H l=some (.lst (ps.map V.ref))/\Paired (Mw H) ps ts
def HE(H:Hp)(g:Gd)(kvs:List NE)(ss:List cE):Prop:=Paired (λe s=>e.1=f6 s/\∃l,e.2.2= .ref l/\Mv H l (g.steps s)) kvs ss
theorem Ia.same{H H':Hp}{l:Addr}{qs:List (Nat×Nat)}(h:Ia H l qs)(e:ai H H'):Ia H' l qs:=by
 obtain⟨ps,a,b⟩:=h
 exact⟨ps,e _ _ a,Paired.dP b λ_ _ z=>e _ _ z⟩
theorem Mw.same{H H':Hp}{p:Addr}{t:cE×Int}(h:Mw H p t)(e:ai H H'):Mw H' p t:=by
 obtain⟨q,a,b⟩:=h
 exact⟨q,e _ _ a,jj.same b e⟩
theorem Mv.same{H H':Hp}{l:Addr}{ts:List (cE×Int)}(h:Mv H l ts)(e:ai H H'):Mv H' l ts:=by
 obtain⟨ps,a,b⟩:=h
 exact⟨ps,e _ _ a,Paired.dP b λ_ _ z=>z.same e⟩
theorem HE.same{H H':Hp}{g:Gd}{kvs:List NE}{ss:List cE}(h:HE H g kvs ss)(e:ai H H'):HE H' g kvs ss:=Paired.dP h λ_ _ ⟨a,l,b,c⟩=>⟨a,l,b,c.same e⟩
theorem Mv.da{H:Hp}{l:Addr}{ts:List (cE×Int)}(h:Mv H l ts):Mv (sF H) l ts:=by
 obtain⟨ps,a,b⟩:=h
 exact⟨ps,sF.lst a,Paired.dP b λ_ _ ⟨q,a,b⟩=>⟨q,sF.tup a,jj.da b⟩⟩
theorem HE.da{H:Hp}{g:Gd}{kvs:List NE}{ss:List cE}(h:HE H g kvs ss):HE (sF H) g kvs ss:=Paired.dP h λ_ _ ⟨a,l,b,c⟩=>⟨a,l,b,c.da⟩
theorem Ia.da{H:Hp}{l:Addr}{qs:List (Nat×Nat)}(h:Ia H l qs):Ia (sF H) l qs:=by
 obtain⟨ps,a,b⟩:=h
 exact⟨ps,sF.lst a,Paired.dP b λ_ _ z=>sF.tup z⟩
theorem ND.dat{P:Program}{w:World}{H H':Hp}{d:Addr}{kvs:List NE}(h:ND P w H d kvs)(e:Dat H H'):ND P w H' d kvs:=⟨e _ _ (λ_ _ _ z=>by cases z) h.at_,λx hx=>jj.same (jj.da (h.keys x hx)) (sF.dat e)⟩
theorem wj{H:Hp}{g:Gd}{s:cE}:∀{kvs:List NE} {ss:List cE},HE H g kvs ss->s∈ss->∃l,jN kvs (f6 s)=some (.ref l)/\Mv H l (g.steps s)
 |_,_,.nil,h=>nomatch h
 |_,_,.cons (a:=e) (b:=t) ⟨h1,l,h2,h3⟩ r,h=>by
  by_cases z:e.1=f6 s
  ·have z2:=sR (h1.symm.trans z)
   subst z2
   exact⟨l,by rw[j5 z,h2],h3⟩
  ·rw[iH z]
   rcases List.mem_cons.mp h with q|q
   ·exact absurd (by rw[q];exact h1) z
   ·exact wj r q
def Qi(dS lB dE:Addr):List (Str×V):=aF "ends" (.ref dE) (aF "begins" (.ref lB) (aF "steps" (.ref dS) []))
theorem oG{dS lB dE:Addr}:(Qi dS lB dE).lookup ("steps" :Str)=some (.ref dS):=by
 unfold Qi
 rw[av,if_neg (by decide +kernel),av,if_neg (by decide +kernel),av,if_pos rfl]
theorem xR{dS lB dE:Addr}:(Qi dS lB dE).lookup ("begins" :Str)=some (.ref lB):=by
 unfold Qi
 rw[av,if_neg (by decide +kernel),av,if_pos rfl]
theorem De{dS lB dE:Addr}:(Qi dS lB dE).lookup ("ends" :Str)=some (.ref dE):=by
 unfold Qi
 rw[av,if_pos rfl]
def T6(kE:List (List Key×V))(g:Gd):Prop:=∀i j,i<=g.n->j<=g.m->lU kE [.inl (i:Int),.inl (j:Int)]=some (.bl (g.en i j))
def Nj(kvs:List NE)(g:Gd):Prop:=∀s,g.In s->jN kvs (f6 s)=some (.int (g.rest s))
def DM(P:Program)(w:World)(C:Addr)(H:Hp)(x:Addr)(g:Gd)(bs:List (Nat×Nat)):Prop:=∃dx dS lB dE kS kE,H x=some (.ins C dx (Qi dS lB dE))/\ND P w H dS kS/\HE H g kS g.states/\Ia H lB bs/\H dE=some (.dT kE)/\T6 kE g
theorem DM.same{P:Program}{w:World}{C:Addr}{H H':Hp}{x:Addr}{g:Gd}{bs:List (Nat×Nat)}(h:DM P w C H x g bs)(e:ai H H'):DM P w C H' x g bs:=by
 obtain⟨dx,dS,lB,dE,kS,kE,h1,h2,h3,h4,h5,h6⟩:=h
 exact⟨dx,dS,lB,dE,kS,kE,e _ _ h1,ND.same h2 e,h3.same e,h4.same e,e _ _ h5,h6⟩
theorem Lo.gr{P:Program}{w:World}{L:Lm}{C:Addr}{H H':Hp}{x:Addr}{g:Gd}{bs:List (Nat×Nat)}(e:Lo P w L H H')(h:DM P w C H x g bs):DM P w C H' x g bs:=by
 obtain⟨dx,dS,lB,dE,kS,kE,h1,h2,h3,h4,h5,h6⟩:=h
 exact⟨dx,dS,lB,dE,kS,kE,e.nx _ _ (Nt.in (λ_ z=>by cases z) h1),e.nk h2,h3.da.same e.da,h4.da.same e.da,e.nx _ _ (Nt.in (λ_ z=>by cases z) h5),h6⟩
def cI(m:Str)(n k:Nat):List (Nat×Nat):=(placesOf n k).filter λq=>vK m (q.1,q.2)
def Gd.kG(g:Gd)(b:Nat×Nat):Int:=g.rest (b.1,b.2,112)
def MI:Sp:=λvs H Q _=>∃f s:Str,vs=[.str f,.str s]/\f.cps.size<=12/\s.cps.size<=12/\∀l H',ai H H'->H l=none->Ia H' l (placesOf f.cps.size s.cps.size)->Q (.ref l) H'
def Fy(K:PySem.W.Frag)(C:Addr):Sp:=λvs H Q _=>∃(x p:Addr) (T:PT) (f s:Str) (i j c:Nat),vs=[.ref x,.str f,.str s,.ref p,.str ⟨#[c]⟩]/\BR K C H x T/\Of T.1 f/\Of T.1 s/\f.cps.size<=12/\s.cps.size<=12/\Gy H p (i,j) ∧
 ∀l H',ai H H'->H l=none->(∀m,Mv H' l ((cK T m f s).steps (i,j,c)))->Q (.ref l) H'
def IQ(P:Program)(w:World)(K:PySem.W.Frag)(C:Addr):Sp:=λvs H Q _=>∃(x lp:Addr) (T:PT) (f s:Str),vs=[.ref x,.str f,.str s,.ref lp]/\BR K C H x T/\Of T.1 f/\Of T.1 s/\f.cps.size<=12/\s.cps.size<=12/\Ia H lp (placesOf f.cps.size s.cps.size) ∧
 ∀d kvs H',ai H H'->H d=none->ND P w H' d kvs->(∀m,HE H' (cK T m f s) kvs (dj (placesOf f.cps.size s.cps.size)))->Q (.ref d) H'
def FH:Sp:=λvs H Q _=>∃(lp:Addr) (f s m:Str),vs=[.str f,.str s,.ref lp,.str m]/\f.cps.size<=12/\s.cps.size<=12/\Ia H lp (placesOf f.cps.size s.cps.size) ∧
 ∀d kvs H',ai H H'->H d=none->H' d=some (.dT kvs)->(∀T,T6 kvs (cK T m f s))->Q (.ref d) H'
def wO(P:Program)(w:World)(K:PySem.W.Frag)(C CG CS CM:Addr):Sp:=λvs H Q E=>∃(x dx pr:Addr) (T:PT) (f s m:Str),vs=[.ref x,.ref pr,.str f,.str s,.str m]/\H x=some (.ins CG dx [])/\BR K C H pr T/\f.cps.size<=20/\s.cps.size<=20 ∧
 (Of T.1 f->Of T.1 s->jz m=true->f.cps.size<=12/\s.cps.size<=12/\∀H',(∀b u,b≠x->H b=some u->H' b=some u)->DM P w CG H' x (cK T m f s) (cI m f.cps.size s.cps.size)->Q .iz H') ∧
 (∀i j,uc T.1 f s i j->∀dx H',ai H H'->H' dx=some (zm dx (Ba i j))->E (.ref CS) (some dx) H')/\(Of T.1 f->Of T.1 s->jz m=false->(reprText m).length<=20/\∀H',ai H H'->E (.ref CM) none H')
def Ed(P:Program)(w:World)(CG:Addr):Sp:=λvs H Q _=>∃(x:Addr) (g:Gd) (bs:List (Nat×Nat)),vs=[.ref x]/\DM P w CG H x g bs/\g.Ok/\g.n<=12/\g.m<=12/\∀d kvs H',ai H H'->H d=none->ND P w H' d kvs->Nj kvs g->Q (.ref d) H'
def GR(P:Program)(w:World)(CG:Addr)(H:Hp)(x d:Addr)(g:Gd)(bs:List (Nat×Nat))(kvs:List NE):Prop:=DM P w CG H x g bs/\ND P w H d kvs/\Nj kvs g
theorem Lo.gR{P:Program}{w:World}{L:Lm}{C:Addr}{H H':Hp}{x d:Addr}{g:Gd}{bs:List (Nat×Nat)}{kvs:List NE}(e:Lo P w L H H')(h:GR P w C H x d g bs kvs):GR P w C H' x d g bs kvs:=⟨e.gr h.1,e.nk h.2.1,h.2.2⟩
theorem GR.same{P:Program}{w:World}{C:Addr}{H H':Hp}{x d:Addr}{g:Gd}{bs:List (Nat×Nat)}{kvs:List NE}(h:GR P w C H x d g bs kvs)(e:ai H H'):GR P w C H' x d g bs kvs:=⟨h.1.same e,ND.same h.2.1 e,h.2.2⟩
def Aj(P:Program)(w:World)(CG:Addr):Sp:=λvs H Q _=>∃(x d q:Addr) (g:Gd) (bs:List (Nat×Nat)) (kvs:List NE) (s:cE),vs=[.ref x,.ref d,.ref q]/\GR P w CG H x d g bs kvs/\jj H q (f6 s)/\g.In s/\Q (.bl (g.stop s)) H
def wQ(P:Program)(w:World)(CG:Addr)(L:Lm):Sp:=λvs H Q _=>∃(x d:Addr) (g:Gd) (bs:List (Nat×Nat)) (kvs:List NE),vs=[.ref x,.ref d]/\GR P w CG H x d g bs kvs/\LT L H/\bs≠[]/\(∀b∈bs,b.1<=g.n/\b.2<=g.m) ∧
 ∀p b H',Lo P w L H H'->fmin g.kG bs=some b->Gy H' p b->Q (.ref p) H'
def IP(P:Program)(w:World)(CG:Addr)(L:Lm):Sp:=λvs H Q _=>∃(x d q:Addr) (g:Gd) (bs:List (Nat×Nat)) (kvs:List NE) (s:cE),vs=[.ref x,.ref d,.ref q]/\GR P w CG H x d g bs kvs/\jj H q (f6 s)/\g.In s/\g.steps s≠[]/\LT L H ∧
 ∀q' t H',Lo P w L H H'->fmin g.key (g.steps s)=some t->jj H' q' (f6 t.1)->Q (.ref q') H'
def II(P:Program)(w:World)(CG:Addr)(L:Lm):Sp:=λvs H Q _=>∃(x d p:Addr) (g:Gd) (bs:List (Nat×Nat)) (kvs:List NE) (b:Nat×Nat),vs=[.ref x,.ref d,.ref p]/\GR P w CG H x d g bs kvs/\Gy H p b/\g.In (b.1,b.2,112)/\g.Ok/\g.n<=12/\g.m<=12/\LT L H ∧
 ∀H',Lo P w L H H'->Q (.str ⟨(g.moves (b.1,b.2,112)).toArray⟩) H'
def YV(H:Hp)(r:Addr)(T:PT)(m f s:Str):Prop:=∃b c p,fmin (cK T m f s).kG (cI m f.cps.size s.cps.size)=some b/\H r=some (.tup [.ref c,.ref p,.str ⟨((cK T m f s).moves (b.1,b.2,112)).toArray⟩])/\TupAt H c (kD ((cK T m f s).kG b,uT T))/\Gy H p b
def FL(P:Program)(w:World)(K:PySem.W.Frag)(C CS CM:Addr)(L:Lm):Sp:=λvs H Q E=>∃(pr:Addr) (T:PT) (f s m:Str),vs=[.ref pr,.str f,.str s,.str m]/\BR K C H pr T/\LT L H/\f.cps.size<=20/\s.cps.size<=20 ∧
 (Of T.1 f->Of T.1 s->jz m=true->f.cps.size<=12/\s.cps.size<=12/\∀r H',Lo P w L H H'->H r=none->YV H' r T m f s->Q (.ref r) H') ∧
 (∀i j,uc T.1 f s i j->∀dx H',ai H H'->H' dx=some (zm dx (Ba i j))->E (.ref CS) (some dx) H')/\(Of T.1 f->Of T.1 s->jz m=false->(reprText m).length<=20/\∀H',ai H H'->E (.ref CM) none H')
end GP
namespace GP
open PySem L2 sy
theorem Nr{H:Hp}{l p:Addr}{o y:HO}(hp:H p=none):ai (Wo l H) (Wo l (L2.upd (L2.upd H p o) l y)):=λb u h=>by
 have n:=Wo.ne h
 have h':=Wo.sub b u h
 refine Wo.in n ?_
 rw[ao n,ao (aP h' hp)]
 exact h'
theorem sO{H H2:Hp}{l p:Addr}{o y:HO}(e:ai H H2)(hl:H l=none)(hp:H2 p=none):ai H (L2.upd (L2.upd H2 p o) l y):=ai.at (e.trans (ai.upd hp)) hl
theorem Ie{H:Hp}{l p:Addr}{o y:HO}(n:p≠l):Wo l (L2.upd (L2.upd H p o) l y) p=some o:=Wo.in n (by rw[ao n,ah])
theorem Gy.same{H H':Hp}{p:Addr}{q:Nat×Nat}(h:Gy H p q)(e:ai H H'):Gy H' p q:=e _ _ h
theorem O3{H:Hp}{l:Addr}{ps:List Addr}{qs:List (Nat×Nat)}(h1:H l=some (.lst (ps.map V.ref)))(h2:Paired (Gy (Wo l H)) ps qs):Ia H l qs:=⟨ps,h1,Paired.dP h2 λ_ _ z=>z.same Wo.sub⟩
def rws(m i:Nat):List (Nat×Nat):=(List.range i).flatMap λi=>(List.range (m+1)).map λj=>(i,j)
theorem Ct(m i:Nat):rws m (i+1)=rws m i++(List.range (m+1)).map λj=>(i,j):=by
 unfold rws
 rw[List.range_succ (n:=i),List.flatMap_append]
 simp
theorem Ll(m i:Nat):(rws m i).length=i*(m+1):=by
 induction i with
 |zero=>simp[rws]
 |succ i ih=>rw[Ct,List.length_append,ih,Nat.succ_mul,List.length_map,List.length_range]
theorem G7{a b n:Nat}(ha:a<=12)(hb:b<=12)(h:n<=3*((a+1)*(b+1))):n<sizeLine:=by
 have:(a+1)*(b+1)<=13*13:=Nat.mul_le_mul (by omega) (by omega)
 exact Nat.lt_of_le_of_lt (show n<=507 by omega) (by decide)
theorem sP:Str.ofString "p" =⟨#[112]⟩:=by kernel_rfl
theorem sA:Str.ofString "a" =⟨#[97]⟩:=by kernel_rfl
theorem sB:Str.ofString "b" =⟨#[98]⟩:=by kernel_rfl
theorem Ng{T:PT}{m f s a:Str}{v c:Nat}(h:a=⟨#[v]⟩):V.int (if a=⟨#[c]⟩then mP (cF T.2.2.1.2 T.2.2.2.2 T.2.1) T.2.2.2 else mP (cF T.2.2.1.2 T.2.2.2.2 T.2.1) T.2.2.1+mP (cF T.2.2.1.2 T.2.2.2.2 T.2.1) T.2.2.2)=V.int ((cK T m f s).ac v c):=by
 subst h
 unfold Gd.ac
 by_cases e:v=c
 ·subst e
  rw[if_pos rfl,if_pos rfl]
  rfl
 ·rw[if_neg (λz=>e (by simpa using congrArg Str.cps z)),if_neg e]
  rfl
theorem Ec{H3 H5:Hp}{l p q r:Addr}{xs:List V}{t:cE×Int}{a b d:V}{c:Str}{y:HO}(hl:H3 l=some (.lst xs))(hp:H3 p=none)(hq:L2.upd H3 p (.tup [a,b]) q=none)(e:ai (L2.upd (L2.upd H3 p (.tup [a,b])) q (.tup [.ref p,.str c])) H5)(hr:H5 r=none)
  (ea:a= .int (t.1.1:Int)) (eb:b= .int (t.1.2.1:Int)) (ec:c=⟨#[t.1.2.2]⟩) (ed:d= .int t.2) :
  H5 l=some (.lst xs)/\r≠l/\ai (Wo l H3) (Wo l (L2.upd (L2.upd H5 r (.tup [.ref q,d])) l y))/\Mw (Wo l (L2.upd (L2.upd H5 r (.tup [.ref q,d])) l y)) r t:=by
 subst ea eb ec ed
 have s1:=ai.upd (o:=.tup [.int (t.1.1:Int),.int (t.1.2.1:Int)]) hp
 have s2:=s1.trans (ai.upd (o:=.tup [.ref p,.str ⟨#[t.1.2.2]⟩]) hq)
 have h5:=e _ _ (s2 _ _ hl)
 have nr:r≠l:=λz=>by rw[z,h5]at hr;cases hr
 have np:p≠l:=λz=>by rw[z,hl]at hp;cases hp
 have nq:q≠l:=λz=>by rw[z,s1 _ _ hl]at hq;cases hq
 have nqp:p≠q:=λz=>by rw[←z,ah]at hq;cases hq
 have keep:∀{b o},b≠l->H5 b=some o->Wo l (L2.upd (L2.upd H5 r (.tup [.ref q,.int t.2])) l y) b=some o:=λ{b o} n h=>Wo.in n (by rw[ao n,ao (aP h hr)];exact h)
 exact⟨h5,nr,λb u h=>keep (Wo.ne h) (e _ _ (s2 _ _ (Wo.sub b u h))),q,Ie nr,p,keep nq (e _ _ ah),keep np (e _ _ (by rw[ao nqp,ah];rfl))⟩
theorem Ez{α:Type}{R:α->α->Prop}{l:List α}{k:Nat}{x:α}(h:l.Pairwise R)(ir:∀a,¬R a a)(hk:l[k]? =some x):x∉l.take k:=λhm=>by
 have e:l=l.take k++l.drop k:=(List.take_append_drop k l).symm
 rw[e]at h
 have XZ:=(List.getElem?_eq_some_iff.mp hk).1
 have hd:x∈l.drop k:=by
  rw[List.drop_eq_getElem_cons XZ,(List.getElem?_eq_some_iff.mp hk).2]
  exact List.mem_cons_self
 exact ir x ((List.pairwise_append.mp h).2.2 x hm x hd)
def pA:List Nat:=[112,97,98]
def st3(q:Nat×Nat)(b:Nat):List cE:=(pA.take b).map λc=>(q.1,q.2,c)
theorem Qu {b:Nat} {x:V} (h:[V.str (Str.ofString "p"),V.str (Str.ofString "a"),V.str (Str.ofString "b")][b]? =some x):∃c,pA[b]? =some c/\x= .str ⟨#[c]⟩:=by
 rw[sP,sA,sB]at h
 match b,h with
 | 0,h=>exact⟨112,rfl,(Option.some.inj h).symm⟩
 | 1,h=>exact⟨97,rfl,(Option.some.inj h).symm⟩
 | 2,h=>exact⟨98,rfl,(Option.some.inj h).symm⟩
 |b+3,h=>simp at h
theorem OU{ps:List (Nat×Nat)}(pw:ps.Pairwise MN){a b c:Nat}{q:Nat×Nat}(ha:ps[a]? =some q)(hb:pA[b]? =some c):(q.1,q.2,c)∉dj (ps.take a)++st3 q b:=λz=>by
 rcases List.mem_append.mp z with z|z
 ·exact Ez pw (λ_=>xh) ha (dN.mp z).1
 ·obtain⟨c',hc',e⟩:=List.mem_map.mp z
  have e':c'=c:=(Prod.mk.inj (Prod.mk.inj e).2).2
  subst e'
  match b,hb with
  | 0,hb=>exact nomatch hc'
  | 1,hb=>exact absurd hc' (by rw[←Option.some.inj hb];decide)
  | 2,hb=>exact absurd hc' (by rw[←Option.some.inj hb];decide)
  |b+3,hb=>simp[pA]at hb
theorem MH{H:Hp}{g:Gd}{s:cE}:∀{kvs:List NE} {ss:List cE},HE H g kvs ss->s∉ss->jN kvs (f6 s)=none
 |_,_,.nil,_=>rfl
 |_,_,.cons ⟨h1,_⟩ r,h=>by
  rw[iH (λz=>h (by rw[sR (h1.symm.trans z)];exact List.mem_cons_self))]
  exact MH r λz=>h (List.mem_cons_of_mem _ z)
theorem IA{q:Nat×Nat}{b c:Nat}(h:pA[b]? =some c):st3 q (b+1)=st3 q b++[(q.1,q.2,c)]:=by
 unfold st3
 rw[take_snoc h,List.map_append]
 rfl
theorem OV{ps:List (Nat×Nat)}{q:Nat×Nat}{a b:Nat}(ha:a<ps.length):(dj (ps.take a)++st3 q b).length<=3*ps.length:=by
 rw[List.length_append,rJ,List.length_take]
 have:(st3 q b).length<=3:=by unfold st3;rw[List.length_map,List.length_take];exact Nat.min_le_right _ _
 omega
theorem Cc{ps:List (Nat×Nat)}{q:Nat×Nat}{a:Nat}(h:ps[a]? =some q):dj (ps.take (a+1))=dj (ps.take a)++st3 q 3:=by
 unfold dj
 rw[take_snoc h,List.flatMap_append]
 simp[three,st3,pA]
theorem Bc{α:Type}(l:List α)(d:α)(c:α->Bool):((List.range l.length).filter λi=>c (l.getD i d)).map (λi=>l.getD i d)=l.filter c:=by
 have e:(List.range l.length).map (λi=>l.getD i d)=l:=by
  refine List.ext_getElem (by simp) λi h1 h2=>?_
  simp[List.getD_eq_getElem?_getD,h2]
 rw[show l.filter c=((List.range l.length).map λi=>l.getD i d).filter c by rw[e],List.filter_map]
 rfl
theorem uY{α β γ:Type}{F:β->γ->Prop}{f:α->β}{g:α->γ}:∀{l:List α},(∀i∈l,F (f i) (g i))->Paired F (l.map f) (l.map g)
 |[],_=>.nil
 |_::_,h=>.cons (h _ List.mem_cons_self) (uY λi hi=>h i (List.mem_cons_of_mem _ hi))
theorem Kp2{r:L2.St}{a b:Option V}:Kp (none::none::r) (a::b::r):=λi v e=>by
 match i with
 | 0=>cases e
 | 1=>cases e
 |i+2=>exact e
theorem Ft{H:Hp}{P l:Addr}{ln:Pos}{lq:Str}{xs:List V}{o:HO}(h:TabOk H P ln lq)(hl:H l=some (.lst xs)):TabOk (L2.upd H l o) P ln lq:=by
 have n:∀{b φ},H b=some (.ext φ)->b≠l:=λ{b φ} e z=>by rw[z,hl]at e;cases e
 rcases h with h|⟨c,h,h2⟩
 ·exact .inl (by rw[ao (n h)];exact h)
 ·exact .inr ⟨c,by rw[ao (n h)];exact h,by rw[ao (n h2)];exact h2⟩
theorem LT.put{L:Lm}{H:Hp}{l:Addr}{xs:List V}{o:HO}(h:LT L H)(hl:H l=some (.lst xs)):LT L (L2.upd H l o):=⟨Ft h.a hl,Ft h.b hl,h.ne⟩
theorem Lo.put{P:Program}{w:World}{L:Lm}{H H1:Hp}{l:Addr}{xs:List V}{o:HO}(a:Lo P w L H H1)(hn:H l=none)(hl:H1 l=some (.lst xs)):Lo P w L H (L2.upd H1 l o):=by
 refine⟨λb u q=>?_,λd kvs q=>?_,a.lt.put hl,λb q=>?_⟩
 ·rw[ao (aP (Nt.sub b u q) hn)];exact a.nx b u q
 ·rw[ao (aP q hn)];exact a.nd d kvs q
 ·by_cases z:b=l
  ·rw[z];exact hn
  ·rw[ao z]at q;exact a.dom b q
theorem LW{H:Hp}{l q:Addr}{k:NK}{xs:List V}{o:HO}(h:jj H q k)(hl:H l=some (.lst xs)):jj (L2.upd H l o) q k:=by
 have n:∀{b ys},H b=some (.tup ys)->b≠l:=λ{b ys} e z=>by rw[z,hl]at e;cases e
 obtain⟨p,h1,h2⟩:=h
 exact⟨p,by rw[ao (n h1)];exact h1,by rw[ao (n h2)];exact h2⟩
theorem EU(T:PT)(m f s:Str):(cK T m f s).Ok:=by
 show AY m f s ((f.cps.size:Int),(s.cps.size:Int))=true
 unfold AY
 split
 ·simp
 ·split<;>simp
theorem Br(m:Str)(n k:Nat):cI m n k≠[]:=by
 have h:((0:Nat),(0:Nat))∈cI m n k:=by
  refine List.mem_filter.mpr ⟨dO.mpr ⟨Nat.zero_le _,Nat.zero_le _⟩,?_⟩
  show vK m (((0:Nat):Int),((0:Nat):Int))=true
  unfold vK
  split
  ·simp
  ·split
   ·simp
   ·split<;>simp
 exact List.ne_nil_of_mem h
end GP
namespace GP
open PySem L2 sy
theorem Ru{c:Int}(h1: -(10 ^ 39)-4<=c)(h2:c<=10 ^ 39):Sm c:=xY (by omega) (by omega)
def FF(K:PySem.W.Frag):Sp:=λvs H Q _=>∃(s t:Addr) (ns:List Int) (k:Int),vs=[.ref s,.ref t]/\wk K H s t ns k/\k<=100000/\∀c:Int,-(10 ^ 39)<=c->c<=10 ^ 39->Q (.int c) (L2.upd H t (.lst [.int (k+1)]))
def Cf(K:PySem.W.Frag):Sp:=λvs H Q _=>∃(s t:Addr) (ns:List Int) (k:Int) (n:Nat),vs=[.ref s,.ref t,.int n]/\wk K H s t ns k/\k<=100000/\1<=n/\n<=6 ∧
 ∀x H',z6 x->x.cps.size=n->ai (L2.upd H t (.lst [.int (k+1)])) H'->Q (.str x) H'
def QA(f:cJ):Prop:=1<=f.2/\f.2<=999/\ -(10 ^ 39)<=f.1/\f.1<=10 ^ 39
theorem QA.l{f:cJ}(h:QA f):K2 f:=⟨h.1,h.2.1,Ru (by have:=h.2.2.1;omega) h.2.2.2⟩
def Cg(K:PySem.W.Frag):Sp:=λvs H Q _=>∃(s t:Addr) (ns:List Int) (k c:Int),vs=[.ref s,.ref t,.int c]/\wk K H s t ns k/\k<=90000 ∧
 ∀(f:cJ) (q:Addr) (H':Hp) (k':Int),QA f->ai (Wo t H) (Wo t H')->H' t=some (.lst [.int k'])->k<=k'->k'<=k+2->H q=none->H' q=some (.tup [.int f.1,.int f.2])->Q (.ref q) H'
def Fx(K:PySem.W.Frag):Sp:=λvs H Q _=>∃(s t:Addr) (ns:List Int) (k:Int) (n:Nat),vs=[.ref s,.ref t,.int n]/\wk K H s t ns k/\k<=80000/\1<=n/\n<=6 ∧
 ∀(r l o m:Addr) (rs:List Addr) (rows:List (List cJ)) (fo fm:cJ) (sg:Str) (H':Hp) (k':Int),z6 sg->sg.cps.size=n->H' r=some (.tup [.str sg,.ref l,.ref o,.ref m])->tX K (Wo t H') l rs rows->K1 n rows->(∀r∈rows,∀f∈r,K2 f)->TupAt (Wo t H') o fo->K2 fo->TupAt (Wo t H') m fm->K2 fm →
  ai (Wo t H) (Wo t H')->H' t=some (.lst [.int k'])->k<=k'->k'<=k+200->Q (.ref r) H'
def zA(K:PySem.W.Frag)(C:Addr):Sp:=λvs H Q _=>∃(s t:Addr) (ns:List Int) (k:Int),vs=[.ref s,.ref t]/\wk K H s t ns k/\k<=70000 ∧
 ∀x H' k' T,BR K C (Wo t H') x T->T.1.cps.size<=4->H x=none->ai (Wo t H) (Wo t H')->H' t=some (.lst [.int k'])->k<=k'->k'<=k+300->Q (.ref x) H'
def IC(K:PySem.W.Frag):Sp:=λvs H Q _=>∃(s t:Addr) (ns:List Int) (k:Int) (n:Nat) (sg:Str),vs=[.ref s,.ref t,.str sg,.int n]/\wk K H s t ns k/\k<=80000/\n<=12/\0<sg.cps.size/\sg.cps.size<=100 ∧
 ∀f H' k',Of sg f->f.cps.size<=n->ai (Wo t H) (Wo t H')->H' t=some (.lst [.int k'])->k<=k'->k'<=k+20->Q (.str f) H'
def Cj:Sp:=λvs H Q _=>∃m:Int,vs=[.int m]/\0<=m/\∀x H',jz x=true->ai H H'->Q (.str x) H'
def KJ(v u:V):Prop:=(∃s,v= .str s/\u= .str s)\/∃n,v= .int n/\u= .int n
def BP(K:PySem.W.Frag)(H:Hp):Nat->V->V->Prop
 | 0,v,u=>KJ v u
 |d+1,v,u=>KJ v u\/∃p q xs ys,v= .ref p/\u= .ref q/\dR K H p xs/\dR K H q ys/\xs.length=ys.length/\xs.length<=100/\∀(i:Nat) x y,xs[i]? =some x->ys[i]? =some y->BP K H d x y
theorem BP.same{K:PySem.W.Frag}{H H':Hp}(e:ai H H'):∀{d:Nat} {v u:V},BP K H d v u->BP K H' d v u
 | 0,_,_,h=>h
 |d+1,_,_,h=>h.imp id λ⟨p,q,xs,ys,h1,h2,h3,h4,h5,h6,h7⟩=>⟨p,q,xs,ys,h1,h2,ai.tup e h3,ai.tup e h4,h5,h6,λi x y hx hy=>BP.same e (h7 i x y hx hy)⟩
theorem BP.flat{K:PySem.W.Frag}{H:Hp}{d:Nat}{v u:V}(h:KJ v u):BP K H d v u:=by
 cases d with
 |zero=>exact h
 |succ d=>exact .inl h
theorem BP.int{K:PySem.W.Frag}{H:Hp}{d:Nat}{n:Int}:BP K H d (.int n) (.int n):=.flat (.inr ⟨_,rfl,rfl⟩)
theorem BP.str{K:PySem.W.Frag}{H:Hp}{d:Nat}{n:Str}:BP K H d (.str n) (.str n):=.flat (.inl ⟨_,rfl,rfl⟩)
theorem BP.of{K:PySem.W.Frag}{H:Hp}{p q:Addr}{xs ys:List V}{d:Nat}(hp:dR K H p xs)(hq:dR K H q ys)(hl:xs.length<=100)(h:Paired (BP K H d) xs ys):BP K H (d+1) (.ref p) (.ref q) :=
 .inr ⟨p,q,xs,ys,rfl,rfl,hp,hq,Paired.len h,hl,λi x y hx hy=>by
  obtain⟨y',hy',z⟩:=GP.Paired.at h hx
  rw[hy]at hy'
  cases hy'
  exact z⟩
def sL(K:PySem.W.Frag)(d:Nat):Sp:=λvs H Q _=>∃v u:V,vs=[v,u]/\BP K H d v u/\∀H',ai H H'->Q (.bl true) H'
theorem j9{α:Type}{l:List α}{i:Nat}{d x:α}(h:l[i]? =some x):l.getD i d=x:=by
 rw[List.getD_eq_getElem?_getD,h];rfl
theorem Lb{a tv:Int}{i j:Nat}(ht:tv=1\/tv=3\/tv=5\/tv=7\/tv=9\/tv=11)(hij:i<j)(hj:j<6):((a+(i:Int)*tv) % 92).toNat≠((a+(j:Int)*tv) % 92).toNat:=by
 rcases ht with rfl|rfl|rfl|rfl|rfl|rfl<;>omega
theorem EB{L:List Nat}{p:Nat->Nat}(hL:L.Nodup)(n:Nat)(hp:∀i,i<n->p i<L.length)(hne:∀i j,i<j->j<n->p i≠p j):((List.range n).map λi=>L.getD (p i) 0).Nodup:=by
 rw[List.Nodup,List.pairwise_map]
 refine List.Pairwise.imp_of_mem ?_ (List.pairwise_lt_range (n:=n))
 intro i j hi hj hij z
 have h1:=hp i (List.mem_range.mp hi)
 have h2:=hp j (List.mem_range.mp hj)
 rw[j9 (List.getElem?_eq_getElem h1),j9 (List.getElem?_eq_getElem h2)]at z
 exact hne i j hij (List.mem_range.mp hj) ((List.getElem_inj hL).mp z)
def JG:List Nat->Bool
 |a::b::r=>decide (a<b)&&JG (b::r)
 |_=>true
theorem A2:∀{a:Nat} {l:List Nat},JG (a::l)=true->(∀c∈l,a<c)/\JG l=true
 |a,[],_=>⟨λc hc=>(nomatch hc),rfl⟩
 |a,b::r,h=>by
  have h':(decide (a<b)&&JG (b::r))=true:=h
  rw[Bool.and_eq_true]at h'
  have h1:=of_decide_eq_true h'.1
  refine⟨λc hc=>?_,h'.2⟩
  rcases List.mem_cons.mp hc with rfl|hc
  ·exact h1
  ·exact Nat.lt_trans h1 ((A2 h'.2).1 c hc)
theorem xP:∀{l:List Nat},JG l=true->l.Nodup
 |[],_=>List.nodup_nil
 |a::l,h=>List.nodup_cons.mpr ⟨λz=>Nat.lt_irrefl _ ((A2 h).1 a z),xP (A2 h).2⟩
def KL(rows:List (List cJ))(k:Nat):Prop:=∀a b f,K4 rows a b f->K2 f/\(a=b->k<=a->QA f)
theorem Gv{rows:List (List cJ)}{a c i j:Nat}{row:List cJ}{f g:cJ}(hr:rows[a]? =some row)(h:K4 (rows.set a (row.set c f)) i j g):(i=a/\j=c/\g=f)\/K4 rows i j g:=by
 obtain⟨r,h1,h2⟩:=h
 rw[List.getElem?_set]at h1
 by_cases e:a=i
 ·subst e
  rw[if_pos rfl,if_pos (List.getElem?_eq_some_iff.mp hr).1]at h1
  cases h1
  rw[List.getElem?_set]at h2
  by_cases e2:c=j
  ·subst e2
   rw[if_pos rfl]at h2
   split at h2
   ·exact .inl ⟨rfl,rfl,(Option.some.inj h2).symm⟩
   ·cases h2
  ·rw[if_neg e2]at h2
   exact .inr ⟨row,hr,h2⟩
 ·rw[if_neg e]at h1
  exact .inr ⟨r,h1,h2⟩
def ye(K:PySem.W.Frag)(H:Hp)(t l:Addr)(n j:Nat)(k:Int)(H2:Hp):Prop:=∃rs rows,tX K (Wo t H2) l rs rows/\K1 n rows/\KL rows j/\(∀r∈rs,H r=none)/\ai (Wo t H) (Wo t H2)/\H2 t=some (.lst [.int k])
theorem Kh{rows:List (List cJ)}{k:Nat}(h:KL rows k):∀r∈rows,∀f∈r,K2 f:=λr hr f hf=>by
 obtain⟨i,hi,e⟩:=List.getElem_of_mem hr
 obtain⟨j,hj,e'⟩:=List.getElem_of_mem hf
 exact(h i j f ⟨r,List.getElem?_eq_some_iff.mpr ⟨hi,e⟩,List.getElem?_eq_some_iff.mpr ⟨hj,e'⟩⟩).1
theorem EM{xs:List V}{j:Nat}(h:j<xs.length):LY xs.length (j:Int)=some j:=by
 unfold LY
 rw[if_pos (by omega),if_pos (by omega)]
 simp
def MK(K:PySem.W.Frag)(C:Addr):Sp:=λvs H Q _=>∃(x:Addr) (T:PT) (b:Bool),vs=[.ref x,.bl b]/\BR K C H x T/\Q (.int (if b=true then mP (uT T) T.2.2.2 else mP (uT T) T.2.2.1+mP (uT T) T.2.2.2)) H
def FD:Sp:=λvs H Q _=>∃(m:Str) (i j:Int),vs=[.str m,.int i,.int j]/\jz m=true/\Q (.bl (vK m (i,j))) H
def FA:Sp:=λvs H Q _=>∃(m f s:Str) (i j:Int),vs=[.str m,.str f,.str s,.int i,.int j]/\jz m=true/\f.cps.size<=20/\s.cps.size<=20/\Q (.bl (AY m f s (i,j))) H
theorem Gd.oq(g:Gd)(s:cE)(v:Nat)(vs:List Nat):g.walk s (v::vs)=((g.steps s).find? λt=>t.1.2.2==v).bind λt=>(g.walk t.1 vs).map λr=>(t.2+r.1,r.2):=by
 rw[Gd.walk]
 cases (g.steps s).find? λt=>t.1.2.2==v<;>rfl
theorem Gd.wD{g:Gd}:∀(a b:List Nat) (s:cE),g.walk s (a++b)=(g.walk s a).bind λr=>(g.walk r.2 b).map λq=>(r.1+q.1,q.2)
 |[],b,s=>by
  show g.walk s b=(g.walk s b).map _
  cases g.walk s b with
  |none=>rfl
  |some r=>simp
 |v::a,b,s=>by
  rw[List.cons_append,Gd.oq,Gd.oq]
  cases (g.steps s).find? (λt=>t.1.2.2==v)with
  |none=>rfl
  |some t =>
   show(g.walk t.1 (a++b)).map _=((g.walk t.1 a).map _).bind _
   rw[Gd.wD a b t.1]
   cases g.walk t.1 a with
   |none=>rfl
   |some r =>
    show((g.walk r.2 b).map _).map _=(g.walk r.2 b).map _
    cases g.walk r.2 b with
    |none=>rfl
    |some q=>simp[Int.add_assoc]
theorem Gd.Ih{g:Gd}{s:cE}{t:cE×Int}(h:t∈g.steps s):g.walk s [t.1.2.2]=some (t.2,t.1):=by
 rw[Gd.oq,Gd.uo h]
 show some (t.2+0,t.1)=_
 rw[Int.add_zero]
theorem Gd.GG{g:Gd}{s e:cE}{a:List Nat}{c:Int}{t:cE×Int}(h:g.walk s a=some (c,e))(ht:t∈g.steps e):g.walk s (a++[t.1.2.2])=some (c+t.2,t.1):=by
 rw[Gd.wD,h]
 show(g.walk e [t.1.2.2]).map _=_
 rw[Gd.Ih ht]
 rfl
theorem PN{m:Str}(h:jz m=true):m=Str.ofString "whole" \/m=Str.ofString "within" \/m=Str.ofString "over" \/m=Str.ofString "stretch" :=by
 by_cases h1:m=Str.ofString "whole"
 ·exact .inl h1
 ·by_cases h2:m=Str.ofString "within"
  ·exact .inr (.inl h2)
  ·by_cases h3:m=Str.ofString "over"
   ·exact .inr (.inr (.inl h3))
   ·exact .inr (.inr (.inr (yL h h1 h2 h3)))
theorem C7{a b:Str}{A B:Prop}(h1:a=b->A)(h2:¬a=b->B):if(decide (V.str a=V.str b))=true then A else B:=by
 by_cases h:a=b
 ·rw[if_pos (decide_eq_true (by rw[h]))];exact h1 h
 ·rw[if_neg (by rw[decide_eq_false (λz=>h (V.str.inj z))];exact Bool.false_ne_true)];exact h2 h
theorem Dt{i j:Int}:decide (V.int i=V.int j)=decide (i=j):=by
 by_cases h:i=j
 ·rw[h,decide_eq_true rfl,decide_eq_true rfl]
 ·rw[decide_eq_false h,decide_eq_false (λz=>h (V.int.inj z))]
theorem ZA{p:Prop}[Decidable p]{A B:Prop}(h:p)(x:A):if(decide p)=true then A else B:=cD (λ_=>x) λz=>absurd h z
theorem Xg{p:Prop}[Decidable p]{A B:Prop}(h:¬p)(x:B):if(decide p)=true then A else B:=cD (λz=>absurd z h) λ_=>x
end GP
namespace L2
open PySem PySem.Spec PyProof.Rows
theorem qt{X:Cx}{K':PySem.W.Frag}(hK:X.K=K'):lP X (.builtin "isinstance") (λxs H Q=>∃ea C od c cv b,xs=[.ref ea,c]/\((∃D,c= .ref D/\cv= .ref D)\/∃T,c= .ty T/\cv= .type T)/\H ea=some (K0 ea (.ref C) od)/\(od=none\/∃dx fs,od=some dx/\H dx=some (zm dx fs))/\Nh K' C/\PySem.W.kitOne K' (.ref C) cv=some b/\Q (.bl b) H):=by subst hK;exact yR
theorem CB{X:Cx}{K':PySem.W.Frag}{e:Expr}{f:Str}{pos:Pos}{ta:TE}(hK:X.K=K')(he:PE X e ta)(hb:attributeBase e f X.env (eval e X.env)=eval e X.env):PE X (.Attribute e f pos) (MG K' ta f):=by subst hK;exact Lv he hb
theorem Lu{X:Cx}{K':PySem.W.Frag}{e:Expr}{f:Str}{pos:Pos}{ta:TE}(hK:X.K=K')(he:PE X e ta)(hb:attributeBase e f X.env (eval e X.env)=eval e X.env):PE X (.Attribute e f pos) (Rl K' ta f):=by subst hK;exact cW he hb
end L2
namespace GP
open PySem L2 sy
def uC:List Nat:=[113,120,81,88,48,55,43,126,32]
theorem LA:(Str.ofString "qxQX07+~ ").cps.toList=uC:=by kernel_rfl
def vc(sg:Str):List Nat:=uC.filter λc=>!decide (c∈sg.cps.toList)
theorem LC{sg:Str}(h:sg.cps.size<=4):5<=(vc sg).length:=by
 have nd:(uC.filter λc=>decide (c∈sg.cps.toList)).Nodup:=List.Pairwise.filter _ (show uC.Nodup by decide)
 have z:=zG nd λc hc=>of_decide_eq_true (List.mem_filter.mp hc).2
 have e:=List.length_eq_countP_add_countP (λc=>decide (c∈sg.cps.toList)) (l:=uC)
 rw[List.countP_eq_length_filter,List.countP_eq_length_filter]at e
 have e9:uC.length=9:=rfl
 have z2:sg.cps.toList.length<=4:=by rw[Array.length_toList];exact h
 have e2:(vc sg).length=(uC.filter λa=>decide (¬decide (a∈sg.cps.toList)=true)).length:=by
  unfold vc
  congr 1
  refine List.filter_congr λc _=>?_
  by_cases q:c∈sg.cps.toList<;>simp[q]
 omega
theorem Pc{sg:Str}{c:Nat}(h:c∈vc sg):c∉sg.cps.toList:=by
 have:=(List.mem_filter.mp h).2
 simpa using this
def Ak(K:PySem.W.Frag)(L:Lm):Sp:=λvs H Q _=>∃(a:Addr) (ns:List Int),vs=[.ref a]/\bI K H a (ns.map V.int)/\ns.length<=63/\LT L H/\∀H',LT L H'->Q (.bl true) H'
theorem Lo.wo{P:Program}{w:World}{L:Lm}{H H':Hp}{t:Addr}{xs:List V}(a:Lo P w L (Wo t H) H')(ht:H' t=some (.lst xs)):Lo P w L (Wo t H) (Wo t H'):=by
 have nt:∀{b u},Wo t H b=some u->b≠t:=λ{b u} h=>Wo.ne h
 have tb:∀{Q ln lq},TabOk H' Q ln lq->TabOk (Wo t H') Q ln lq:=λ{Q ln lq} h=>by
  have n:∀{b φ},H' b=some (.ext φ)->b≠t:=λ{b φ} e z=>by rw[z,ht]at e;cases e
  rcases h with h|⟨c,h,h2⟩
  ·exact .inl (Wo.in (n h) h)
  ·exact .inr ⟨c,Wo.in (n h) h,Wo.in (n h2) h2⟩
 refine⟨λb u q=>Wo.in (nt (Nt.sub b u q)) (a.nx b u q),λd kvs q=>Wo.in (nt q) (a.nd d kvs q),⟨tb a.lt.a,tb a.lt.b,a.lt.ne⟩,λb q=>?_⟩
 by_cases z:b=t
 ·rw[z];unfold Wo;rw[if_pos rfl]
 ·refine a.dom b ?_
  unfold Wo at q
  rw[if_neg z]at q
  exact q
theorem LT.wo{L:Lm}{H:Hp}{t:Addr}{xs:List V}(h:LT L H)(ht:H t=some (.lst xs)):LT L (Wo t H):=by
 have n:∀{b φ},H b=some (.ext φ)->b≠t:=λ{b φ} e z=>by rw[z,ht]at e;cases e
 have tb:∀{Q ln lq},TabOk H Q ln lq->TabOk (Wo t H) Q ln lq:=λ{Q ln lq} h=>by
  rcases h with h|⟨c,h,h2⟩
  ·exact .inl (Wo.in (n h) h)
  ·exact .inr ⟨c,Wo.in (n h) h,Wo.in (n h2) h2⟩
 exact⟨tb h.a,tb h.b,h.ne⟩
theorem Lo.ctr{P:Program}{w:World}{L:Lm}{K:PySem.W.Frag}{H H':Hp}{s t:Addr}{ns:List Int}{k k':Int}(a:Lo P w L (Wo t H) H')(c:wk K H s t ns k)(ht:H' t=some (.lst [.int k']))(h0:0<=k'):wk K H' s t ns k':=⟨(a.wo ht).seq c.sq,c.len,ht,h0⟩
theorem Lo.cut{P:Program}{w:World}{L:Lm}{H H1:Hp}{t:Addr}{xs:List V}(a:Lo P w L H H1)(h:LT L H)(ht:H t=some (.lst xs)):Lo P w L (Wo t H) H1:=(Lo.of (h.wo ht) Wo.sub).trans a
theorem LT.step{L:Lm}{H H':Hp}{t:Addr}{xs:List V}(h:LT L H)(ht:H t=some (.lst xs))(e:ai (Wo t H) (Wo t H')):LT L H':=((h.wo ht).same e).same Wo.sub
end GP
namespace L2
open PySem PySem.Spec PyProof.Rows PySem.W
section
variable{X:Cx}{pins:List (Addr×Obj)}{σ:St}{H:Hp}{s:Shared}{a q:Addr}{k:NK}{kvs:List NE}{v:V}{r:Value}{A:Around}{E:Value->Shared->Prop}
end
section
variable{X:Cx}{o e f i:Expr}{apos cpos pos:Pos}{td ty tx:TE}{Pr:Program}{wo:World}
end
end L2
namespace L2
open PySem PySem.Spec PyProof.Rows PySem.W
end L2
namespace GP
open PySem L2 sy
theorem Gd.IV{g:Gd}{s:cE}(h:g.en s.1 s.2.1=true):g.rest s<=0:=by
 rw[g.rest_eq]
 refine lF (List.mem_append_right _ ?_)
 rw[if_pos h]
 exact List.mem_cons_self
theorem Gd.zD{g:Gd}{s:cE}{t:cE×Int}(h:t∈g.steps s):g.rest s<=t.2+g.rest t.1:=by
 rw[g.rest_eq]
 exact lF (List.mem_append_left _ (List.mem_map.mpr ⟨t,h,rfl⟩))
theorem Gd.sG{g:Gd}{s e:cE}{v:Nat}{vs:List Nat}{c:Int}(h:g.walk s (v::vs)=some (c,e)):∃t c',t∈g.steps s/\t.1.2.2=v/\g.walk t.1 vs=some (c',e)/\c=t.2+c':=by
 rw[Gd.oq]at h
 obtain⟨t,ht,h⟩:=Option.bind_eq_some_iff.mp h
 obtain⟨⟨c',e'⟩,hr,h⟩:=Option.map_eq_some_iff.mp h
 cases h
 exact⟨t,c',List.mem_of_find?_eq_some ht,by simpa using List.find?_some ht,hr,rfl⟩
theorem Gd.uh{g:Gd}:∀{vs:List Nat} {s e:cE} {c:Int},g.walk s vs=some (c,e)->g.en e.1 e.2.1=true->g.rest s<=c
 |[],s,e,c,h,he=>by cases h;exact Gd.IV he
 |v::vs,s,e,c,h,he=>by
  obtain⟨t,c',ht,_,hw,rfl⟩:=Gd.sG h
  have h1:=Gd.zD ht
  have h2:=Gd.uh hw he
  omega
end GP
namespace GP
open PySem L2 sy
end GP
namespace GP
open PySem L2 sy
end GP
namespace GP
open PySem L2 sy
end GP
namespace GP
open PySem L2 sy
def ID(K:PySem.W.Frag)(C:Addr)(L:Lm):Sp:=λvs H Q _=>∃(pr:Addr) (T:PT) (f s m:Str),vs=[.ref pr,.str f,.str s,.str m]/\BR K C H pr T/\LT L H/\f.cps.size<=20/\s.cps.size<=20 ∧
 ((∃i j,uc T.1 f s i j/\∀r H',ai H H'->H' r=some (.tup [.str (Str.ofString "no sign"),.int (i:Nat),.int (j:Nat),.int 0])->Q (.ref r) H') ∨
  (Of T.1 f/\Of T.1 s/\jz m=false/\(reprText m).length<=20/\∀r H',ai H H'->H' r=some (.tup [.str (Str.ofString "no manner"),.int 0])->Q (.ref r) H'))
def yM(f:Str)(k:Int)(c:Nat):Str:=(Txt.slice f none (some k)++(⟨#[c]⟩:Str))++Txt.slice f (some k) none
def IG(K:PySem.W.Frag)(C:Addr):Sp:=λvs H Q _=>∃(m:Int) (pr:Addr) (T:PT) (f g:Str),vs=[.int m,.ref pr,.str f,.str g]/\0<=m/\BR K C H pr T/\T.1.cps.size<=4/\Of T.1 f/\Of T.1 g/\f.cps.size<=12/\g.cps.size<=12 ∧
 ∀(r lr d:Addr) (a b:Str) (i j:Nat) (H':Hp),ai H H'->H' r=some (.tup [.ref lr,.ref d])->H' lr=some (.lst [.str a,.str b])->H' d=some (.tup [.int (i:Int),.int (j:Int)])->uc T.1 a b i j->a.cps.size<=20->b.cps.size<=20->Q (.ref r) H'
def IE(K:PySem.W.Frag)(C:Addr)(L:Lm):Sp:=λvs H Q _=>∃(m:Int) (pr:Addr) (T:PT) (f g:Str),vs=[.int m,.ref pr,.str f,.str g]/\0<=m/\BR K C H pr T/\LT L H/\T.1.cps.size<=4/\Of T.1 f/\Of T.1 g/\f.cps.size<=12/\g.cps.size<=12/\∀H',ai H H'->Q (.bl true) H'
end GP
namespace GP
open PySem L2 sy
end GP
namespace GP
open PySem L2 sy
abbrev YO:=List Nat×Int×cE
abbrev Wy4:=(Nat×Nat)×YO
def Gd.Q9(g:Gd):Nat->cE->List YO
 | 0,_=>[]
 |d+1,s=>([],0,s)::(g.steps s).flatMap λt=>(g.Q9 d t.1).map λw=>(t.1.2.2::w.1,t.2+w.2.1,w.2.2)
def Gd.HS(g:Gd)(s:cE):List YO:=g.Q9 (g.ht s+1) s
theorem gT{α β:Type}{l:List α}{f h:α->List β}(e:∀a∈l,f a=h a):l.flatMap f=l.flatMap h:=by
 rw[List.flatMap_def,List.flatMap_def,List.map_congr_left e]
theorem Gd.wu{g:Gd}:∀(d:Nat) (s:cE),g.ht s<d->g.Q9 d s=g.HS s
 | 0,_,h=>by omega
 |d+1,s,h=>by
  have e1:∀t∈g.steps s,g.Q9 d t.1=g.HS t.1:=λt ht=>Gd.wu d t.1 (by have:=Gd.jQ ht;omega)
  by_cases hd:d=g.ht s
  ·subst hd;rfl
  ·have e2:∀t∈g.steps s,g.Q9 (g.ht s) t.1=g.HS t.1:=λt ht=>by
    have:=Gd.jQ ht
    have hlt:g.ht s<d:=by omega
    exact Gd.wu (g.ht s) t.1 this
   show([],0,s)::_=([],0,s)::_
   exact congrArg _ (gT λt ht=>by rw[e1 t ht,e2 t ht])
 termination_by d=>d
theorem Gd.Ae(g:Gd)(s:cE):g.HS s=([],0,s)::(g.steps s).flatMap λt=>(g.HS t.1).map λw=>(t.1.2.2::w.1,t.2+w.2.1,w.2.2):=by
 show([],0,s)::_=([],0,s)::_
 rw[gT λt ht=>by rw[Gd.wu _ t.1 (Gd.jQ ht)]]
theorem Gd.tD{g:Gd}:∀{mv:List Nat} {s e:cE} {c:Int},(mv,c,e)∈g.HS s↔g.walk s mv=some (c,e)
 |[],s,e,c=>by
  rw[Gd.Ae,List.mem_cons]
  constructor
  ·rintro(h|h)
   ·cases h;rfl
   ·obtain⟨t,_,h⟩:=List.mem_flatMap.mp h
    obtain⟨w,_,h⟩:=List.mem_map.mp h
    cases h
  ·intro h
   cases h
   exact .inl rfl
 |v::vs,s,e,c=>by
  rw[Gd.Ae,List.mem_cons]
  constructor
  ·rintro(h|h)
   ·cases h
   ·obtain⟨t,ht,h⟩:=List.mem_flatMap.mp h
    obtain⟨⟨w1,w2,w3⟩,hw,h⟩:=List.mem_map.mp h
    cases h
    rw[Gd.oq,Gd.uo ht]
    show(g.walk t.1 w1).map _=_
    rw[Gd.tD.mp hw]
    rfl
  ·intro h
   obtain⟨t,c',ht,rfl,hw,rfl⟩:=Gd.sG h
   exact .inr (List.mem_flatMap.mpr ⟨t,ht,List.mem_map.mpr ⟨(vs,c',e),Gd.tD.mpr hw,rfl⟩⟩)
theorem Gd.Iz(g:Gd)(s:cE):(g.steps s).Pairwise λt u=>t.1.2.2≠u.1.2.2:=by
 unfold Gd.steps
 by_cases h1:s.1<g.n<;>by_cases h2:s.2.1<g.m<;>simp[h1,h2]
theorem rV{α β:Type}{f:α->β}{l:List α}(hf:∀a∈l,∀b∈l,f a=f b->a=b)(h:l.Nodup):(l.map f).Nodup:=by
 rw[List.Nodup,List.pairwise_map]
 refine List.Pairwise.imp_of_mem (λ{a b} ha hb n z=>n (hf a ha b hb z)) h
theorem Gd.Ig{g:Gd}:∀(d:Nat) (s:cE),g.ht s<d->(g.HS s).Nodup
 | 0,_,h=>by omega
 |d+1,s,h=>by
  rw[Gd.Ae]
  refine List.nodup_cons.mpr ⟨λz=>?_,?_⟩
  ·obtain⟨t,_,z⟩:=List.mem_flatMap.mp z
   obtain⟨w,_,z⟩:=List.mem_map.mp z
   cases z
  ·refine List.pairwise_flatMap.mpr ⟨λt ht=>rV (λa _ b _ e=>?_) (Gd.Ig d t.1 (by have:=Gd.jQ ht;omega)),(g.Iz s).imp λ{t u} n=>?_⟩
   ·obtain⟨a1,a2,a3⟩:=a
    obtain⟨b1,b2,b3⟩:=b
    simp only[Prod.mk.injEq,List.cons.injEq,true_and]at e ⊢
    exact⟨e.1,by omega,e.2.2⟩
   ·intro x hx y hy z
    obtain⟨a,_,rfl⟩:=List.mem_map.mp hx
    obtain⟨b,_,e⟩:=List.mem_map.mp hy
    rw[←e]at z
    simp only[Prod.mk.injEq,List.cons.injEq]at z
    exact n z.1.1
theorem Gd.GD(g:Gd)(s:cE):(g.HS s).Nodup:=Gd.Ig _ s (Nat.lt_succ_self _)
def Gd.cnt(g:Gd)(s:cE):Nat:=(g.HS s).countP λw=>g.en w.2.2.1 w.2.2.2.1&&decide (w.2.1=g.rest s)
theorem Gd.Ko{g:Gd}{s:cE}{c x:Int}(h:x<=c+g.rest s):((g.HS s).countP λw=>g.en w.2.2.1 w.2.2.2.1&&decide (c+w.2.1=x))=if c+g.rest s=x then g.cnt s else 0:=by
 by_cases e:c+g.rest s=x
 ·rw[if_pos e]
  refine List.countP_congr λw _=>?_
  simp only[Bool.and_eq_true,decide_eq_true_eq]
  constructor<;>rintro⟨a,b⟩<;>exact⟨a,by omega⟩
 ·rw[if_neg e]
  refine List.countP_eq_zero.mpr λw hw=>?_
  simp only[Bool.and_eq_true,decide_eq_true_eq]
  rintro⟨a,b⟩
  have:g.rest s<=w.2.1:=Gd.uh (Gd.tD.mp hw) a
  omega
theorem Gd.Qq(g:Gd)(s:cE):g.cnt s=(if g.stop s then 1 else 0)+((g.steps s).map λt=>if t.2+g.rest t.1=g.rest s then g.cnt t.1 else 0).sum:=by
 show(g.HS s).countP _=_
 rw[Gd.Ae,List.countP_cons,List.countP_flatMap,Nat.add_comm]
 congr 1
 ·unfold Gd.stop
  rw[show decide ((0:Int)=g.rest s)=decide (g.rest s=0) from decide_eq_decide.mpr ⟨Eq.symm,Eq.symm⟩]
 ·refine congrArg List.sum (List.map_congr_left λt ht=>?_)
  rw[Function.comp_apply,List.countP_map]
  exact Gd.Ko (Gd.zD ht)
def Gd.pre(g:Gd)(bs:List (Nat×Nat)):List Wy4:=bs.flatMap λb=>(g.HS (b.1,b.2,112)).map λw=>(b,w)
theorem Gd.nN{g:Gd}{bs:List (Nat×Nat)}{b:Nat×Nat}{mv:List Nat}{c:Int}{e:cE}:(b,mv,c,e)∈g.pre bs↔b∈bs/\g.walk (b.1,b.2,112) mv=some (c,e):=by
 unfold Gd.pre
 rw[List.mem_flatMap]
 constructor
 ·rintro⟨b',hb,h⟩
  obtain⟨w,hw,h⟩:=List.mem_map.mp h
  cases h
  exact⟨hb,Gd.tD.mp hw⟩
 ·rintro⟨hb,h⟩
  exact⟨b,hb,List.mem_map.mpr ⟨_,Gd.tD.mpr h,rfl⟩⟩
theorem Gd.Aw{g:Gd}{bs:List (Nat×Nat)}(h:bs.Nodup):(g.pre bs).Nodup:=by
 refine List.pairwise_flatMap.mpr ⟨λb _=>rV (λx _ y _ e=>(Prod.mk.inj e).2) (g.GD _),h.imp λ{a b} n=>?_⟩
 intro x hx y hy z
 obtain⟨_,_,rfl⟩:=List.mem_map.mp hx
 obtain⟨_,_,e⟩:=List.mem_map.mp hy
 rw[←e]at z
 exact n (Prod.mk.inj z).1
def Gd.tot(g:Gd)(bs:List (Nat×Nat))(x:Int):Nat:=(g.pre bs).countP λw=>g.en w.2.2.2.1 w.2.2.2.2.1&&decide (w.2.2.1=x)
theorem sum_filter{α:Type}(p:α->Bool)(f:α->Nat):∀l:List α,(l.map λa=>if p a=true then f a else 0).sum=((l.filter p).map f).sum
 |[]=>rfl
 |a::l=>by
  rw[List.map_cons,List.sum_cons,sum_filter p f l]
  cases h:p a with
  |true=>rw[List.filter_cons_of_pos h];simp
  |false=>rw[List.filter_cons_of_neg (by rw[h];exact Bool.false_ne_true)];simp
theorem Gd.OL{g:Gd}{bs:List (Nat×Nat)}{x:Int}(h:∀b∈bs,x<=g.kG b):g.tot bs x=((bs.filter λb=>decide (g.kG b=x)).map λb=>g.cnt (b.1,b.2,112)).sum:=by
 unfold Gd.tot Gd.pre
 rw[List.countP_flatMap,←sum_filter]
 refine congrArg List.sum (List.map_congr_left λb hb=>?_)
 rw[Function.comp_apply,List.countP_map]
 have z:=Gd.Ko (g:=g) (s:=(b.1,b.2,112)) (c:=0) (x:=x) (by have:=h b hb;show x<=0+g.kG b;omega)
 simp only[Int.zero_add,decide_eq_true_eq]at z ⊢
 exact z
def Gd.into(g:Gd)(bs:List (Nat×Nat))(s:cE):List Int:=((g.pre bs).filter λw=>decide (w.2.2.2=s)).map (·.2.2.1)
theorem Gd.Af{g:Gd}:∀{vs:List Nat} {s e:cE} {c:Int},g.In s->g.walk s vs=some (c,e)->g.In e
 |[],s,e,c,h,hw=>by cases hw;exact h
 |v::vs,s,e,c,h,hw=>by
  obtain⟨t,c',ht,_,SG,_⟩:=Gd.sG hw
  exact Gd.Af (Gd.nu ht h) SG
theorem Gd.GH{g:Gd}{vs:List Nat}{v:Nat}{s e:cE}{c:Int}(h:g.walk s (vs++[v])=some (c,e)):∃r c' t,g.walk s vs=some (c',r)/\t∈g.steps r/\t.1=e/\t.1.2.2=v/\c=c'+t.2:=by
 rw[Gd.wD]at h
 obtain⟨⟨c',r⟩,h1,h⟩:=Option.bind_eq_some_iff.mp h
 obtain⟨⟨c2,r2⟩,h2,h⟩:=Option.map_eq_some_iff.mp h
 cases h
 obtain⟨t,c3,ht,hv,hw,rfl⟩:=Gd.sG h2
 cases hw
 exact⟨r,c',t,h1,ht,rfl,hv,by show c'+(t.2+0)=c'+t.2;omega⟩
theorem Gd.LZ{g:Gd}{bs:List (Nat×Nat)}{s:cE}{pr:List cE}{cs:cE->Int}(nd:bs.Nodup)(hb:∀b∈bs,g.In (b.1,b.2,112))(hp:pr.Nodup)(h1:∀r∈pr,(s,cs r)∈g.steps r)(h2:∀r,g.In r->∀t∈g.steps r,t.1=s->r∈pr/\t.2=cs r):
  (g.into bs s).Perm ((if s.2.2=112/\(s.1,s.2.1)∈bs then [0]else [])++pr.flatMap λr=>(g.into bs r).map (·+cs r)):=by
 have key:((g.pre bs).filter λw=>decide (w.2.2.2=s)).Perm ((if s.2.2=112/\(s.1,s.2.1)∈bs then [((s.1,s.2.1),[],0,s)]else [])++pr.flatMap λr=>((g.pre bs).filter λw=>decide (w.2.2.2=r)).map λw=>(w.1,w.2.1++[s.2.2],w.2.2.1+cs r,s)):=by
  refine(List.perm_ext_iff_of_nodup (List.Pairwise.filter _ (Gd.Aw nd)) ?_).mpr λw=>?_
  ·refine List.nodup_append.mpr ⟨by split<;>simp,List.pairwise_flatMap.mpr ⟨λr _=>rV (λx _ y _ e=>?_) (List.Pairwise.filter _ (Gd.Aw nd)),List.Pairwise.imp (λ{r r'} n=>?_) hp⟩,λa ha b hb z=>?_⟩
   ·next hx hy =>
    have ex:x.2.2.2=r:=by simpa using(List.mem_filter.mp hx).2
    have ey:y.2.2.2=r:=by simpa using(List.mem_filter.mp hy).2
    obtain⟨x1,x2,x3,x4⟩:=x
    obtain⟨y1,y2,y3,y4⟩:=y
    simp only[Prod.mk.injEq,List.append_cancel_right_eq,and_true]at e ex ey ⊢
    exact⟨e.1,e.2.1,by omega,by rw[ex,ey]⟩
   ·intro x hx y hy z
    obtain⟨⟨a1,a2,a3,a4⟩,ha,rfl⟩:=List.mem_map.mp hx
    obtain⟨⟨b1,b2,b3,b4⟩,hb',e⟩:=List.mem_map.mp hy
    rw[←e]at z
    simp only[Prod.mk.injEq,List.append_cancel_right_eq,and_true]at z
    obtain⟨z1,z2,_⟩:=z
    obtain⟨ha,ea⟩:=List.mem_filter.mp ha
    obtain⟨hb',eb⟩:=List.mem_filter.mp hb'
    have wa:=(Gd.nN.mp ha).2
    have wb:=(Gd.nN.mp hb').2
    rw[z1,z2]at wa
    have:=wa.symm.trans wb
    simp only[Option.some.injEq,Prod.mk.injEq]at this
    simp only[decide_eq_true_eq]at ea eb
    exact n (by rw[←ea,←eb,this.2])
   ·split at ha
    ·rw[List.mem_singleton.mp ha]at z
     obtain⟨r,_,hb⟩:=List.mem_flatMap.mp hb
     obtain⟨w,_,rfl⟩:=List.mem_map.mp hb
     simp at z
    ·exact nomatch ha
  ·obtain⟨b,mv,x,e⟩:=w
   rw[List.mem_filter,Gd.nN,List.mem_append,List.mem_flatMap]
   constructor
   ·rintro⟨⟨JR,hw⟩,he⟩
    obtain rfl:e=s:=by simpa using he
    rcases List.eq_nil_or_concat mv with rfl|⟨vs,v,rfl⟩
    ·left
     cases hw
     rw[if_pos ⟨rfl,JR⟩]
     exact List.mem_singleton.mpr rfl
    ·right
     obtain⟨r,c',t,Ur,ht,rfl,rfl,rfl⟩:=Gd.GH (by simpa using hw)
     obtain⟨hr,hc⟩:=h2 r (Gd.Af (hb b JR) Ur) t ht rfl
     refine⟨r,hr,List.mem_map.mpr ⟨(b,vs,c',r),List.mem_filter.mpr ⟨Gd.nN.mpr ⟨JR,Ur⟩,by simp⟩,?_⟩⟩
     rw[hc]
     simp
   ·rintro(h|⟨r,hr,h⟩)
    ·split at h
     ·next q =>
      cases List.mem_singleton.mp h
      refine⟨⟨q.2,?_⟩,by simp⟩
      obtain⟨s1,s2,s3⟩:=s
      have q1:s3=112:=q.1
      rw[q1]
      rfl
     ·exact nomatch h
    ·obtain⟨⟨b',vs,c',r'⟩,hw,h⟩:=List.mem_map.mp h
     cases h
     obtain⟨hw1,er⟩:=List.mem_filter.mp hw
     obtain⟨JR,SG⟩:=Gd.nN.mp hw1
     obtain rfl:r'=r:=by simpa using er
     exact⟨⟨JR,Gd.GG SG (h1 r' hr)⟩,by simp⟩
 refine(key.map (·.2.2.1)).trans (List.Perm.of_eq ?_)
 rw[List.map_append,List.map_flatMap]
 congr 1
 ·split<;>rfl
 ·refine gT λr _=>?_
  unfold Gd.into
  rw[List.map_map,List.map_map]
  rfl
def lQ(l:List Int):Option (Int×Nat):=if l=[]then none else some (jg l,l.count (jg l))
def mg(os:List (Int×Nat)):Option (Int×Nat):=if os=[]then none else some (jg (os.map (·.1)),((os.filter λo=>decide (o.1=jg (os.map (·.1)))).map (·.2)).sum)
theorem G3{l l':List Int}(h:l.Perm l'):jg l=jg l':=by
 by_cases e:l=[]
 ·subst e;rw[List.nil_perm.mp h]
 ·refine tu (h.mem_iff.mpr (mZ λz=>e ?_)) λy hy=>lF (h.mem_iff.mp hy)
  rw[z]at h
  exact List.perm_nil.mp h
theorem zv{l l':List Int}(h:l.Perm l'):lQ l=lQ l':=by
 unfold lQ
 by_cases e:l=[]
 ·subst e;rw[List.nil_perm.mp h]
 ·rw[if_neg e,if_neg (λz=>e (by rw[z]at h;exact List.perm_nil.mp h)),G3 h,h.count_eq]
theorem D9(l:List Int)(c:Int):lQ (l.map (·+c))=(lQ l).map λo=>(o.1+c,o.2):=by
 unfold lQ
 by_cases e:l=[]
 ·subst e;rfl
 ·have em:jg (l.map (·+c))=jg l+c:=tu (List.mem_map.mpr ⟨_,mZ e,rfl⟩) λy hy=>by
   obtain⟨x,hx,rfl⟩:=List.mem_map.mp hy
   have:=lF hx
   omega
  rw[if_neg e,if_neg (λz=>e (List.map_eq_nil_iff.mp z)),em]
  show some (jg l+c,_)=some (jg l+c,_)
  congr 2
  rw[List.count,List.countP_map,List.count]
  refine List.countP_congr λx _=>?_
  simp
theorem CW{M:Int}:∀{ls:List (List Int)},(∀l∈ls,∀y∈l,M<=y)->(((ls.filterMap lQ).filter λo=>decide (o.1=M)).map (·.2)).sum=ls.flatten.count M
 |[],_=>rfl
 |l::ls,h=>by
  have ih:=CW (ls:=ls) λk hk=>h k (List.mem_cons_of_mem _ hk)
  have hl:=h l List.mem_cons_self
  rw[List.flatten_cons,List.count_append,List.filterMap_cons,←ih]
  unfold lQ
  by_cases e:l=[]
  ·subst e;simp
  ·rw[if_neg e]
   simp only
   by_cases em:jg l=M
   ·rw[List.filter_cons_of_pos (by simpa using em),List.map_cons,List.sum_cons,em]
   ·rw[List.filter_cons_of_neg (by simpa using em),List.count_eq_zero.mpr λz=>em ?_,Nat.zero_add]
    have:=lF z
    have:=hl _ (mZ e)
    omega
theorem F5(ls:List (List Int)):mg (ls.filterMap lQ)=lQ ls.flatten:=by
 by_cases e:ls.flatten=[]
 ·have:ls.filterMap lQ=[]:=by
   rw[List.filterMap_eq_nil_iff]
   intro l hl
   have:=List.flatten_eq_nil_iff.mp e l hl
   rw[this];rfl
  rw[this,e];rfl
 ·obtain⟨l,hl,hne⟩:∃l∈ls,l≠[]:=by
   refine Classical.byContradiction λz=>e (List.flatten_eq_nil_iff.mpr λl hl=>Classical.byContradiction λq=>z ⟨l,hl,q⟩)
  have mem:∀o,o∈ls.filterMap lQ->∃l∈ls,l≠[]/\o.1=jg l:=λo ho=>by
   obtain⟨l,hl,hs⟩:=List.mem_filterMap.mp ho
   unfold lQ at hs
   split at hs
   ·cases hs
   ·next n=>cases hs;exact⟨l,hl,n,rfl⟩
  have ZC:∀l∈ls,l≠[]->(jg l,l.count (jg l))∈ls.filterMap lQ:=λl hl n=>List.mem_filterMap.mpr ⟨l,hl,by unfold lQ;rw[if_neg n]⟩
  have n1:ls.filterMap lQ≠[]:=List.ne_nil_of_mem (ZC l hl hne)
  have n2:(ls.filterMap lQ).map (·.1)≠[]:=λz=>n1 (List.map_eq_nil_iff.mp z)
  have em:jg ((ls.filterMap lQ).map (·.1))=jg ls.flatten:=by
   symm
   obtain⟨o,ho,eo⟩:=List.mem_map.mp (mZ n2)
   obtain⟨k,hk,kn,ek⟩:=mem o ho
   refine tu ?_ λy hy=>?_
   ·rw[←eo,ek]
    exact List.mem_flatten.mpr ⟨k,hk,mZ kn⟩
   ·obtain⟨k',hk',hy⟩:=List.mem_flatten.mp hy
    have h1:=lF hy
    have h2:=lF (List.mem_map.mpr ⟨_,ZC k' hk' (List.ne_nil_of_mem hy),rfl⟩:jg k'∈(ls.filterMap lQ).map (·.1))
    omega
  unfold mg
  rw[if_neg n1,em,CW λl hl y hy=>lF (List.mem_flatten.mpr ⟨l,hl,hy⟩)]
  unfold lQ
  rw[if_neg e]
def Gd.gv(g:Gd)(bs:List (Nat×Nat))(s:cE):Option (Int×Nat):=lQ (g.into bs s)
theorem Gd.JT{g:Gd}{bs:List (Nat×Nat)}{s:cE}{pr:List cE}{cs:cE->Int}(nd:bs.Nodup)(hb:∀b∈bs,g.In (b.1,b.2,112))(hp:pr.Nodup)(h1:∀r∈pr,(s,cs r)∈g.steps r)(h2:∀r,g.In r->∀t∈g.steps r,t.1=s->r∈pr/\t.2=cs r):
  g.gv bs s=mg ((if s.2.2=112/\(s.1,s.2.1)∈bs then [(0,1)]else [])++pr.filterMap λr=>(g.gv bs r).map λo=>(o.1+cs r,o.2)):=by
 have e:=F5 ((if s.2.2=112/\(s.1,s.2.1)∈bs then [[0]]else [])++pr.map λr=>(g.into bs r).map (·+cs r))
 rw[List.filterMap_append,List.filterMap_map,List.flatten_append]at e
 have e1:lQ ∘ (λr=>(g.into bs r).map (·+cs r))=λr=>(g.gv bs r).map λo=>(o.1+cs r,o.2):=funext λr=>D9 _ _
 rw[e1]at e
 have e2:(if s.2.2=112/\(s.1,s.2.1)∈bs then [[(0:Int)]]else []).filterMap lQ=if s.2.2=112/\(s.1,s.2.1)∈bs then [(0,1)]else []:=by split<;>rfl
 have e3:(if s.2.2=112/\(s.1,s.2.1)∈bs then [[(0:Int)]]else []).flatten=if s.2.2=112/\(s.1,s.2.1)∈bs then [0]else []:=by split<;>rfl
 rw[e2,e3]at e
 rw[e]
 exact zv (Gd.LZ nd hb hp h1 h2)
def HZ(G:cE->Option (Int×Nat))(cs:Nat->Int)(i j:Nat):List (Int×Nat):=pA.filterMap λc=>(G (i,j,c)).map λo=>(o.1+cs c,o.2)
theorem EO(G:cE->Option (Int×Nat))(cs:Nat->Int)(i j:Nat):(pA.map λc=>(i,j,c)).filterMap (λr=>(G r).map λo=>(o.1+cs r.2.2,o.2))=HZ G cs i j:=by
 rw[List.filterMap_map]
 rfl
theorem E6(i j:Nat):(pA.map λc=>((i,j,c):cE)).Nodup:=by
 unfold pA
 simp
theorem Bk{g:Gd}{r:cE}(h:g.In r):r∈pA.map λc=>((r.1,r.2.1,c):cE):=by
 refine List.mem_map.mpr ⟨r.2.2,?_,rfl⟩
 unfold pA
 rcases h.2.2 with h|h|h<;>rw[h]<;>simp
theorem Gd.Ys{g:Gd}{bs:List (Nat×Nat)}{i j:Nat}(nd:bs.Nodup)(hb:∀b∈bs,g.In (b.1,b.2,112))(hi:i<=g.n)(hj:j<=g.m):g.gv bs (i,j,112)=mg ((if(i,j)∈bs then [(0,1)]else [])++if 0<i/\0<j then HZ (g.gv bs) (λ_=>g.pc (i-1) (j-1)) (i-1) (j-1)else []):=by
 have e:=Gd.JT (g:=g) (s:=(i,j,112)) (pr:=if 0<i/\0<j then pA.map (λc=>((i-1,j-1,c):cE))else []) (cs:=λ_=>g.pc (i-1) (j-1)) nd hb (by split;exact E6 _ _;exact List.nodup_nil) (λr hr=>?_) λr hr t ht et=>?_
 ·rw[e]
  simp only[true_and]
  congr 2
  split
  ·exact EO _ (λ_=>g.pc (i-1) (j-1)) _ _
  ·rfl
 ·split at hr
  ·next z =>
   obtain⟨c,_,rfl⟩:=List.mem_map.mp hr
   refine Gd.iN.mpr (.inl ⟨by show i-1<g.n;omega,by show j-1<g.m;omega,?_⟩)
   simp only
   rw[show i-1+1=i by omega,show j-1+1=j by omega]
  ·exact nomatch hr
 ·rcases Gd.iN.mp ht with⟨a,b,rfl⟩|⟨a,rfl⟩|⟨a,rfl⟩<;>simp only[Prod.mk.injEq]at et
  ·obtain⟨e1,e2,_⟩:=et
   rw[if_pos (by omega),show i-1=r.1 by omega,show j-1=r.2.1 by omega]
   exact⟨Bk hr,rfl⟩
  ·omega
  ·omega
theorem Gd.Yu{g:Gd}{bs:List (Nat×Nat)}{i j:Nat}(nd:bs.Nodup)(hb:∀b∈bs,g.In (b.1,b.2,112))(hi:i<=g.n)(hj:j<=g.m):g.gv bs (i,j,97)=mg (if 0<i then HZ (g.gv bs) (g.ac 97) (i-1) j else []):=by
 have e:=Gd.JT (g:=g) (s:=(i,j,97)) (pr:=if 0<i then pA.map (λc=>((i-1,j,c):cE))else []) (cs:=λr=>g.ac 97 r.2.2) nd hb (by split;exact E6 _ _;exact List.nodup_nil) (λr hr=>?_) λr hr t ht et=>?_
 ·rw[e,if_neg (by simp),List.nil_append]
  congr 1
  split
  ·exact EO _ (g.ac 97) _ _
  ·rfl
 ·split at hr
  ·next z =>
   obtain⟨c,_,rfl⟩:=List.mem_map.mp hr
   refine Gd.iN.mpr (.inr (.inl ⟨by show i-1<g.n;omega,?_⟩))
   simp only
   rw[show i-1+1=i by omega]
  ·exact nomatch hr
 ·rcases Gd.iN.mp ht with⟨a,b,rfl⟩|⟨a,rfl⟩|⟨a,rfl⟩<;>simp only[Prod.mk.injEq]at et
  ·omega
  ·obtain⟨e1,e2,_⟩:=et
   rw[if_pos (by omega),show i-1=r.1 by omega,show j=r.2.1 by omega]
   exact⟨Bk hr,rfl⟩
  ·omega
theorem Gd.Yt{g:Gd}{bs:List (Nat×Nat)}{i j:Nat}(nd:bs.Nodup)(hb:∀b∈bs,g.In (b.1,b.2,112))(hi:i<=g.n)(hj:j<=g.m):g.gv bs (i,j,98)=mg (if 0<j then HZ (g.gv bs) (g.ac 98) i (j-1)else []):=by
 have e:=Gd.JT (g:=g) (s:=(i,j,98)) (pr:=if 0<j then pA.map (λc=>((i,j-1,c):cE))else []) (cs:=λr=>g.ac 98 r.2.2) nd hb (by split;exact E6 _ _;exact List.nodup_nil) (λr hr=>?_) λr hr t ht et=>?_
 ·rw[e,if_neg (by simp),List.nil_append]
  congr 1
  split
  ·exact EO _ (g.ac 98) _ _
  ·rfl
 ·split at hr
  ·next z =>
   obtain⟨c,_,rfl⟩:=List.mem_map.mp hr
   refine Gd.iN.mpr (.inr (.inr ⟨by show j-1<g.m;omega,?_⟩))
   simp only
   rw[show j-1+1=j by omega]
  ·exact nomatch hr
 ·rcases Gd.iN.mp ht with⟨a,b,rfl⟩|⟨a,rfl⟩|⟨a,rfl⟩<;>simp only[Prod.mk.injEq]at et
  ·omega
  ·omega
  ·obtain⟨e1,e2,_⟩:=et
   rw[if_pos (by omega),show i=r.1 by omega,show j-1=r.2.1 by omega]
   exact⟨Bk hr,rfl⟩
def Gd.qk(g:Gd)(G:cE->Option (Int×Nat))(i j:Nat):List (Int×Nat):=if g.en i j then pA.filterMap λc=>G (i,j,c)else []
def Gd.Mt(g:Gd)(bs:List (Nat×Nat)):List (List Int):=(placesOf g.n g.m).flatMap λq=>if g.en q.1 q.2 then pA.map λc=>g.into bs (q.1,q.2,c)else []
theorem Gd.Ms(g:Gd)(bs:List (Nat×Nat)):(g.Mt bs).filterMap lQ=(List.range (g.n+1)).flatMap λi=>(List.range (g.m+1)).flatMap λj=>g.qk (g.gv bs) i j:=by
 unfold Gd.Mt placesOf
 rw[List.flatMap_assoc,List.filterMap_flatMap]
 refine gT λi _=>?_
 rw[List.flatMap_map,List.filterMap_flatMap]
 refine gT λj _=>?_
 unfold Gd.qk
 split
 ·rw[List.filterMap_map];rfl
 ·rfl
theorem Gd.HD{g:Gd}{bs:List (Nat×Nat)}(nd:bs.Nodup)(hb:∀b∈bs,g.In (b.1,b.2,112)):(((g.pre bs).filter λw=>g.en w.2.2.2.1 w.2.2.2.2.1).map (·.2.2.1)).Perm (g.Mt bs).flatten:=by
 have key:((g.pre bs).filter λw=>g.en w.2.2.2.1 w.2.2.2.2.1).Perm ((placesOf g.n g.m).flatMap λq=>if g.en q.1 q.2 then pA.flatMap λc=>(g.pre bs).filter λw=>decide (w.2.2.2=(q.1,q.2,c))else []):=by
  have at_:∀{w:Wy4} {q:Nat×Nat},(w∈if g.en q.1 q.2 then pA.flatMap λc=>(g.pre bs).filter λw=>decide (w.2.2.2=(q.1,q.2,c))else [])->w∈g.pre bs/\g.en q.1 q.2=true/\∃c,w.2.2.2=(q.1,q.2,c):=λ{w q} h=>by
   split at h
   ·next en =>
    obtain⟨c,hc,h⟩:=List.mem_flatMap.mp h
    obtain⟨h1,h2⟩:=List.mem_filter.mp h
    exact⟨h1,en,c,by simpa using h2⟩
   ·exact nomatch h
  refine(List.perm_ext_iff_of_nodup (List.Pairwise.filter _ (Gd.Aw nd)) (List.pairwise_flatMap.mpr ⟨λq _=>?_,(qK g.n g.m).imp λ{a b} hab=>?_⟩)).mpr λw=>?_
  ·split
   ·refine List.pairwise_flatMap.mpr ⟨λc _=>List.Pairwise.filter _ (Gd.Aw nd),?_⟩
    have:pA.Nodup:=by decide
    refine List.Pairwise.imp (λ{c c'} n=>?_) this
    intro x hx y hy z
    subst z
    have e1:x.2.2.2=(q.1,q.2,c):=by simpa using(List.mem_filter.mp hx).2
    have e2:x.2.2.2=(q.1,q.2,c'):=by simpa using(List.mem_filter.mp hy).2
    rw[e1]at e2
    simp at e2
    exact n e2
   ·exact List.Pairwise.nil
  ·intro x hx y hy z
   subst z
   obtain⟨_,_,c,e1⟩:=at_ hx
   obtain⟨_,_,c',e2⟩:=at_ hy
   rw[e1]at e2
   simp only[Prod.mk.injEq]at e2
   refine xh (a:=a) ?_
   rw[show b=a from Prod.ext e2.1.symm e2.2.1.symm]at hab
   exact hab
  ·rw[List.mem_filter,List.mem_flatMap]
   constructor
   ·rintro⟨h1,h2⟩
    obtain⟨b,mv,c,e⟩:=w
    obtain⟨JR,hw⟩:=Gd.nN.mp h1
    have hi:=Gd.Af (hb b JR) hw
    refine⟨(e.1,e.2.1),dO.mpr ⟨hi.1,hi.2.1⟩,?_⟩
    rw[if_pos h2]
    refine List.mem_flatMap.mpr ⟨e.2.2,?_,List.mem_filter.mpr ⟨h1,by simp⟩⟩
    unfold pA
    rcases hi.2.2 with h|h|h<;>rw[h]<;>simp
   ·rintro⟨q,_,h⟩
    obtain⟨h1,h2,c,e⟩:=at_ h
    exact⟨h1,by rw[e];exact h2⟩
 refine(key.map (·.2.2.1)).trans (List.Perm.of_eq ?_)
 unfold Gd.Mt
 rw[List.map_flatMap,List.flatten_eq_flatMap,List.flatMap_assoc]
 refine gT λq _=>?_
 split
 ·rw[List.map_flatMap,List.flatMap_map]
  rfl
 ·rfl
theorem Gd.JU{g:Gd}{bs:List (Nat×Nat)}{b:Nat×Nat}(ok:g.Ok)(nd:bs.Nodup)(hb:∀b∈bs,g.In (b.1,b.2,112))(hf:fmin g.kG bs=some b):
  mg ((List.range (g.n+1)).flatMap λi=>(List.range (g.m+1)).flatMap λj=>g.qk (g.gv bs) i j)=some (g.kG b,g.tot bs (g.kG b)):=by
 rw[←Gd.Ms,F5,←zv (Gd.HD nd hb)]
 have hm:=m6 hf
 obtain⟨e,hw,hi,he⟩:=Gd.wC ok _ _ (hb b hm) (Nat.le_refl _)
 have hin:g.kG b∈((g.pre bs).filter λw=>g.en w.2.2.2.1 w.2.2.2.2.1).map (·.2.2.1):=List.mem_map.mpr ⟨(b,g.moves (b.1,b.2,112),g.kG b,e),List.mem_filter.mpr ⟨Gd.nN.mpr ⟨hm,hw⟩,he⟩,rfl⟩
 have em:jg (((g.pre bs).filter λw=>g.en w.2.2.2.1 w.2.2.2.2.1).map (·.2.2.1))=g.kG b:=tu hin λy hy=>by
  obtain⟨⟨b',mv,c,e'⟩,h1,rfl⟩:=List.mem_map.mp hy
  obtain⟨h1,h2⟩:=List.mem_filter.mp h1
  obtain⟨JR,Ur⟩:=Gd.nN.mp h1
  have z1:=tH hf JR
  have z2:g.kG b'<=c:=Gd.uh Ur h2
  show g.kG b<=c
  omega
 unfold lQ
 rw[if_neg (List.ne_nil_of_mem hin),em]
 congr 2
 rw[List.count,List.countP_map,List.countP_filter]
 unfold Gd.tot
 refine List.countP_congr λw _=>?_
 simp[and_comm]
theorem Gs(m:Str)(n k:Nat):(cI m n k).Nodup:=by
 refine List.Pairwise.filter _ ((qK n k).imp λ{a b} hab z=>?_)
 rw[z]at hab
 exact xh hab
end GP
namespace L2
open PySem PySem.Spec PyProof.Rows
theorem uX(ns:List Int):∀n:Nat,preSum (λi=>(ns[i]?).getD 0) n=(ns.take n).sum
 | 0=>rfl
 |n+1=>by
  show preSum _ n+(ns[n]?).getD 0=_
  rw[uX ns n]
  by_cases hn:n<ns.length
  ·rw[List.take_add_one,List.getElem?_eq_getElem hn,List.sum_append]
   simp
  ·rw[List.getElem?_eq_none (by omega),List.take_of_length_le (by omega),List.take_of_length_le (by omega)]
   simp
theorem ints_get:∀{ns:List Int} {us:List Value},Vals (ns.map V.int) us->∀(i:Nat) (v:Value),us[i]? =some v->∃n t,ns[i]? =some n/\v= .int n t
 |[],_,r,i,v,e=>by
  cases r
  simp at e
 |n::ns,_,r,i,v,e=>by
  cases r with
  |cons r1 r2 =>
   cases i with
   |zero =>
    simp at e
    subst e
    obtain⟨t,z⟩:=r1
    exact⟨n,t,rfl,z⟩
   |succ i=>exact ints_get r2 i v e
theorem zR{X:Cx}{K':PySem.W.Frag}(hK:X.K=K')(hc:X.calm=true):lP X (.builtin "sum") (λxs H Q=>∃(l:Addr) (ns:List Int),xs=[.ref l]/\bI K' H l (ns.map V.int)/\Q (.int ns.sum) H):=by
 subst hK
 intro pins s σ H xs us Q I r h
 obtain⟨l,ns,rfl,hl,q⟩:=h
 obtain⟨u,rfl,ru⟩:=vals1 r
 cases ru
 obtain⟨its,rv,p,hz⟩:=I.list hl
 have pl:s.heap.IsList l its.toArray:=p.isList
 have hlt:l<s.heap.objs.size:=by obtain⟨_,e,_⟩:=pl;exact Heap.lt_size e
 have hlen:ns.length=its.length:=by rw[←rv.length,List.length_map]
 refine TK.bY (Nat.le_refl s.toks) ?_
 refine call_sum_walkG (wpAny_pyIter_list pl ?_)
 refine⟨s.heap.objs.size,[s.heap.objs.size,l],[s.heap.objs.size],its.toArray.size,_,_,λi=>(ns[i]?).getD 0,rfl,Walks.list (A:=X.A.in1) (I.ok.hd hc) _ l (Nat.ne_of_lt hlt) its.toArray,
  ⟨⟨_,Heap.get?_push_size _ rfl,rfl,rfl⟩,pl.push _⟩,λb hb=>?_,λi v hP=>?_,λh' tk t' hk hup=>?_⟩
 ·show b<(s.heap.push _).objs.size
  rw[Heap.size_push]
  rcases List.mem_cons.mp hb with rfl|z
  ·exact Nat.lt_succ_self _
  ·rw[List.mem_singleton.mp z]
   exact Nat.lt_succ_of_lt hlt
 ·obtain⟨n,t,e,rfl⟩:=ints_get rv i v (by simpa using hP)
  exact⟨t,by show _=Value.int ((ns[i]?).getD 0) t;rw[e];rfl⟩
 ·rw[uX,List.size_toArray,←hlen,List.take_length]
  refine⟨.int ns.sum,H,I.kept (t':=tk) (λb x e=>hk b x (λhm=>?_) (Heap.get?_push_of_some _ e)),⟨_,rfl⟩,q⟩
  rw[List.mem_singleton.mp hm]at e
  exact Nat.lt_irrefl _ (Heap.lt_size e)
end L2
namespace GP
open PySem L2 sy
def YU(kvs:List NE)(g:Gd):Prop:=∀s,g.In s->jN kvs (f6 s)=some (.int (g.cnt s:Int))
def IM(P:Program)(w:World)(CG:Addr):Sp:=λvs H Q _=>∃(x d:Addr) (g:Gd) (bs:List (Nat×Nat)) (kvs:List NE),vs=[.ref x,.ref d]/\GR P w CG H x d g bs kvs/\g.n<=12/\g.m<=12/\∀d' kvs' H',ai H H'->H d'=none->ND P w H' d' kvs'->YU kvs' g->Q (.ref d') H'
def Al(P:Program)(w:World)(K:PySem.W.Frag)(C CS CM:Addr)(L:Lm):Sp:=λvs H Q E=>∃(pr:Addr) (T:PT) (f s m:Str),vs=[.ref pr,.str f,.str s,.str m]/\BR K C H pr T/\LT L H/\f.cps.size<=20/\s.cps.size<=20 ∧
 (Of T.1 f->Of T.1 s->jz m=true->f.cps.size<=12/\s.cps.size<=12/\∀b H',Lo P w L H H'->fmin (cK T m f s).kG (cI m f.cps.size s.cps.size)=some b->Q (.int ((cK T m f s).tot (cI m f.cps.size s.cps.size) ((cK T m f s).kG b):Nat)) H') ∧
 (∀i j,uc T.1 f s i j->∀dx H',ai H H'->H' dx=some (zm dx (Ba i j))->E (.ref CS) (some dx) H')/\(Of T.1 f->Of T.1 s->jz m=false->(reprText m).length<=20/\∀H',ai H H'->E (.ref CM) none H')
def Gd.tM(g:Gd)(s:cE)(k:Nat):Nat:=(if g.stop s then 1 else 0)+(((g.steps s).take k).map λt=>if t.2+g.rest t.1=g.rest s then g.cnt t.1 else 0).sum
theorem Gd.Hy(g:Gd)(s:cE):g.tM s (g.steps s).length=g.cnt s:=by
 unfold Gd.tM
 rw[List.take_length,←Gd.Qq]
theorem Gd.E5{g:Gd}{s:cE}{k:Nat}{t:cE×Int}(h:(g.steps s)[k]? =some t):g.tM s (k+1)=g.tM s k+if t.2+g.rest t.1=g.rest s then g.cnt t.1 else 0:=by
 unfold Gd.tM
 rw[take_snoc h,List.map_append,List.sum_append]
 simp[Nat.add_assoc]
theorem xW{α β:Type}(l:List α)(d:α)(c:α->Bool)(F:α->β):((List.range l.length).filter λi=>c (l.getD i d)).map (λi=>F (l.getD i d))=(l.filter c).map F:=by
 rw[←Bc l d c,List.map_map]
 rfl
theorem Ln{α β:Type}(l:List α)(d:α)(F:α->β):(List.range l.length).map (λi=>F (l.getD i d))=l.map F:=by
 have e:=xW l d (λ_=>true) F
 rw[List.filter_eq_self.mpr λ_ _=>rfl,List.filter_eq_self.mpr λ_ _=>rfl]at e
 exact e
theorem uZ{α β γ:Type}{F:α->β->Prop}{f:γ->β}:∀{l:List α} {l':List γ},Paired (λa c=>F a (f c)) l l'->Paired F l (l'.map f)
 |_,_,.nil=>.nil
 |_,_,.cons h r=>.cons h (uZ r)
theorem Mg(G:cE->Option (Int×Nat))(cs:Nat->Int)(i j:Nat):((List.range 3).filter λk=>(G (i,j,pA.getD k 0)).isSome).map (λk=>((G (i,j,pA.getD k 0)).map λo=>(o.1+cs (pA.getD k 0),o.2)).getD (0,0))=HZ G cs i j:=by
 show(List.filter _ [0,1,2]).map _=List.filterMap _ [112,97,98]
 cases h0:G (i,j,112)<;>cases h1:G (i,j,97)<;>cases h2:G (i,j,98)<;>simp[List.filter_cons,pA,h0,h1,h2]
theorem wL{α:Type}(f:α->Nat):∀l:List α,(l.map λa=>(f a:Int)).sum=((l.map f).sum:Nat)
 |[]=>rfl
 |a::l=>by
  rw[List.map_cons,List.sum_cons,wL f l,List.map_cons,List.sum_cons,Int.natCast_add]
def pO(o:Int×Nat):HO:=.tup [.int o.1,.int (o.2:Int)]
def vv(H:Hp):Option (Int×Nat)->V->Prop
 |none,v=>v= .iz
 |some o,v=>∃p,v= .ref p/\H p=some (pO o)
theorem vv.same{H H':Hp}{o:Option (Int×Nat)}{v:V}(h:vv H o v)(e:ai H H'):vv H' o v:=by
 cases o with
 |none=>exact h
 |some o=>obtain⟨p,a,b⟩:=h;exact⟨p,a,e _ _ b⟩
def tW(H:Hp)(l:Addr)(os:List (Int×Nat)):Prop:=∃ps:List Addr,H l=some (.lst (ps.map V.ref))/\Paired (λp o=>H p=some (pO o)) ps os
theorem tW.same{H H':Hp}{l:Addr}{os:List (Int×Nat)}(h:tW H l os)(e:ai H H'):tW H' l os:=by
 obtain⟨ps,a,b⟩:=h
 exact⟨ps,e _ _ a,Paired.dP b λ_ _ z=>e _ _ z⟩
def uN(H:Hp)(l:Addr)(f:Nat->Option (Int×Nat)):Prop:=∃vs:List V,H l=some (.lst vs)/\Paired (λv c=>vv H (f c) v) vs pA
theorem uN.same{H H':Hp}{l:Addr}{f:Nat->Option (Int×Nat)}(h:uN H l f)(e:ai H H'):uN H' l f:=by
 obtain⟨vs,a,b⟩:=h
 exact⟨vs,e _ _ a,Paired.dP b λ_ _ z=>z.same e⟩
def wN:Sp:=λvs H Q _=>∃(l:Addr) (os:List (Int×Nat)),vs=[.ref l]/\tW H l os/\os.length<=1000/\∀v H',ai H H'->vv H' (mg os) v->Q v H'
def FE:Sp:=λvs H Q _=>∃(l q:Addr) (G:cE->Option (Int×Nat)) (cs:Nat->Int) (i j:Nat),vs=[.ref l,.ref q]/\uN H l (λc=>G (i,j,c))/\H q=some (.lst (pA.map λc=>V.int (cs c)))/\∀r H',ai H H'->H r=none->tW H' r (HZ G cs i j)->Q (.ref r) H'
def sE(H:Hp)(lg:Addr)(a b:Nat)(f:Nat->Option (Int×Nat)):Prop:=∃(ls qs:List V) (l q:Addr),H lg=some (.lst ls)/\z0 ls (a:Int)=some (.ref l)/\H l=some (.lst qs)/\z0 qs (b:Int)=some (.ref q)/\uN H q f
theorem sE.same{H H':Hp}{lg:Addr}{a b:Nat}{f:Nat->Option (Int×Nat)}(h:sE H lg a b f)(e:ai H H'):sE H' lg a b f:=by
 obtain⟨ls,qs,l,q,h1,h2,h3,h4,h5⟩:=h
 exact⟨ls,qs,l,q,e _ _ h1,h2,e _ _ h3,h4,h5.same e⟩
def Fw(K:PySem.W.Frag)(C:Addr):Sp:=λvs H Q _=>∃(pr lg:Addr) (T:PT) (f s m:Str) (i j:Nat),vs=[.ref pr,.str f,.str s,.str m,.ref lg,.int i,.int j]/\BR K C H pr T/\Of T.1 f/\Of T.1 s/\jz m=true/\f.cps.size<=12/\s.cps.size<=12/\i<=f.cps.size/\j<=s.cps.size ∧
 (0<i->0<j->sE H lg (i-1) (j-1) λc=>(cK T m f s).gv (cI m f.cps.size s.cps.size) (i-1,j-1,c))/\(0<i->sE H lg (i-1) j λc=>(cK T m f s).gv (cI m f.cps.size s.cps.size) (i-1,j,c))/\(0<j->sE H lg i (j-1) λc=>(cK T m f s).gv (cI m f.cps.size s.cps.size) (i,j-1,c)) ∧
 ∀r H',ai H H'->H r=none->uN H' r (λc=>(cK T m f s).gv (cI m f.cps.size s.cps.size) (i,j,c))->Q (.ref r) H'
theorem Kq{J:It}{g:TG}{tt:TT}{te:TE}{σ':St}{H1:Hp}{D:Hp->Prop}{l:Addr}(n:Nat)(b:Nat->Bool)(F:Nat->HO)(hl:H1 l=none)(hn:n<sizeLine)
  (go:∀i H,ai H1 H->i<n->J.go i H) (st:∀H,ai H1 H->J.stop n H)
  (el:∀i x H H3 (R:VK) (S:Hp->Prop),ai H1 H->i<n->J.Ad i H x H3->(b i=true->∀r H5,ai H H5->H r=none->H5 r=some (F i)->R (.ref r) H5)->(b i=false->∀H5,ai H H5->S H5) →
   g x σ' H3 λud H4=>Kp σ' ud/\tt ud H4 λb' H5=>if b'=true then te ud H5 R else S H5)
  (fin:∀H' (rs:List Addr),ai H1 H'->H' l=some (.lst (rs.map V.ref))->Paired (λr i=>H' r=some (F i)) rs ((List.range n).filter b)->D H') :
  ∃W:Nat->Nat->List V->Hp->Prop,(∃m,W 0 m [] (upd H1 l (.lst [])))/\∀i m ys H2,W i m ys H2->(J.stop i H2/\D H2) ∨
   (J.go i H2/\∀x H3,J.Ad i H2 x H3->g x σ' H3 λud H4=>Kp σ' ud/\tt ud H4 λb H5 =>
    if b=true then te ud H5 (λy H6=>H6 l=some (.lst ys)/\ys.length<sizeLine/\∃m',m'<m/\W (i+1) m' (ys++[y]) (upd H6 l (.lst (ys++[y]))))else ∃m',m'<m/\W (i+1) m' ys H5):=by
 refine⟨λi m ys H2=>m=n-i/\i<=n/\ai H1 H2/\H2 l=some (.lst ys)/\∃rs:List Addr,ys=rs.map V.ref/\Paired (λr k=>H2 r=some (F k)/\r≠l) rs ((List.range i).filter b),⟨n,rfl,Nat.zero_le _,GP.ai.upd hl,ah,[],rfl,.nil⟩,?_⟩
 rintro i m ys H2 ⟨rfl,hi,s2,h2,rs,rfl,hrs⟩
 by_cases hlt:i<n
 ·have hlen:rs.length<=i:=by
   rw[Paired.len hrs]
   exact Nat.le_trans (List.length_filter_le _ _) (by rw[List.length_range];exact Nat.le_refl _)
  refine .inr ⟨go i H2 s2 hlt,λx H3 y=>el i x H2 H3 _ _ s2 hlt y (λhb r H5 s5 hr0 hr=>?_) λhb H5 s5=>?_⟩
  ·have nr:r≠l:=λz=>by rw[z,h2]at hr0;cases hr0
   refine⟨s5 _ _ h2,by rw[List.length_map];omega,n-(i+1),by omega,rfl,hlt,GP.ai.at (s2.trans s5) hl,ah,rs++[r],by rw[List.map_append];rfl,?_⟩
   rw[List.range_succ,List.filter_append,List.filter_cons_of_pos hb]
   exact Paired.snoc (Paired.dP hrs λa k ⟨e1,e2⟩=>⟨by rw[ao e2];exact s5 _ _ e1,e2⟩) ⟨by rw[ao nr];exact hr,nr⟩
  ·refine⟨n-(i+1),by omega,rfl,hlt,s2.trans s5,s5 _ _ h2,rs,rfl,?_⟩
   rw[List.range_succ,List.filter_append,List.filter_cons_of_neg (by rw[hb];exact Bool.false_ne_true),List.filter_nil,List.append_nil]
   exact Paired.dP hrs λa k ⟨e1,e2⟩=>⟨s5 _ _ e1,e2⟩
 ·have e:i=n:=by omega
  subst e
  exact .inl ⟨st H2 s2,fin H2 rs s2 h2 (Paired.dP hrs λ_ _ z=>z.1)⟩
theorem Gh(G:cE->Option (Int×Nat))(cs:Nat->Int)(i j:Nat):(HZ G cs i j).length<=3:=List.length_filterMap_le _ _
theorem tW.ext{H:Hp}{lo:Addr}{os zs:List (Int×Nat)}{ps qs:List Addr}(h1:H lo=some (.lst (ps.map V.ref)))(h2:Paired (λp o=>H p=some (pO o)) ps os)(h4:Paired (λp o=>H p=some (pO o)) qs zs):tW (L2.upd H lo (.lst (ps.map V.ref++qs.map V.ref))) lo (os++zs):=by
 have n:∀p o,H p=some (pO o)->L2.upd H lo (.lst (ps.map V.ref++qs.map V.ref)) p=some (pO o):=λp o e=>by
  rw[ao (λz=>by rw[z,h1]at e;cases e)]
  exact e
 exact⟨ps++qs,by rw[ah,List.map_append],rQ (Paired.dP h2 n) (Paired.dP h4 n)⟩
end GP
namespace GP
open PySem L2 sy
def Wx(L:List Addr)(H:Hp):Hp:=λa=>if a∈L then none else H a
theorem Wx.upd{L:List Addr}{H:Hp}{a:Addr}{o:HO}(h:a∈L):Wx L (L2.upd H a o)=Wx L H:=funext λb=>by
 unfold Wx
 by_cases e:b∈L
 ·rw[if_pos e,if_pos e]
 ·rw[if_neg e,if_neg e,ao (λz=>e (by rw[z];exact h))]
theorem Wx.in{L:List Addr}{H:Hp}{a:Addr}{u:HO}(h:a∉L)(e:H a=some u):Wx L H a=some u:=by
 unfold Wx
 rw[if_neg h]
 exact e
theorem Wx.out{L:List Addr}{H:Hp}{a:Addr}{u:HO}(e:Wx L H a=some u):a∉L/\H a=some u:=by
 unfold Wx at e
 split at e
 ·cases e
 ·next n=>exact⟨n,e⟩
theorem Wx.sub{L:List Addr}{H:Hp}:ai (Wx L H) H:=λ_ _ e=>(Wx.out e).2
theorem Wx.same{L:List Addr}{H H':Hp}(e:ai H H'):ai (Wx L H) (Wx L H'):=λa u q=>Wx.in (Wx.out q).1 (e a u (Wx.out q).2)
theorem Wx.cut{L:List Addr}{H:Hp}{r:Addr}{f:Nat->Option (Int×Nat)}(h:uN H r f)(hr:r∉L)(hL:∀a∈L,∃xs,H a=some (.lst xs)):uN (Wx L H) r f:=by
 obtain⟨vs,h1,h2⟩:=h
 refine⟨vs,Wx.in hr h1,Paired.dP h2 λv c z=>?_⟩
 cases hf:f c with
 |none=>rw[hf]at z;exact z
 |some o =>
  rw[hf]at z
  obtain⟨p,e1,e2⟩:=z
  refine⟨p,e1,Wx.in (λq=>?_) e2⟩
  obtain⟨xs,e3⟩:=hL p q
  rw[e3]at e2
  cases e2
theorem vd:∀{l l':List Addr},l.map V.ref=l'.map V.ref->l=l'
 |[],[],_=>rfl
 |[],_::_,h=>by cases h
 |_::_,[],h=>by cases h
 |a::l,b::l',h=>by
  simp only[List.map_cons,List.cons.injEq,V.ref.injEq]at h
  rw[h.1,vd h.2]
def KC(H:Hp)(l:Addr)(G:cE->Option (Int×Nat))(a k:Nat):Prop:=∃qs:List Addr,H l=some (.lst (qs.map V.ref))/\qs.length=k/\∀b q,qs[b]? =some q->uN H q λc=>G (a,b,c)
theorem KC.same{H H':Hp}{l:Addr}{G:cE->Option (Int×Nat)}{a k:Nat}(h:KC H l G a k)(e:ai H H'):KC H' l G a k:=by
 obtain⟨qs,h1,h2,h3⟩:=h
 exact⟨qs,e _ _ h1,h2,λb q hq=>(h3 b q hq).same e⟩
def Q4(H:Hp)(lg le:Addr)(G:cE->Option (Int×Nat))(i m:Nat)(es:List (Int×Nat)):Prop:=lg≠le/\∃ls ps:List Addr,H lg=some (.lst (ls.map V.ref))/\H le=some (.lst (ps.map V.ref))/\ls.length=i/\(∀a l,ls[a]? =some l->KC (Wx [lg,le] H) l G a (m+1))/\Paired (λp o=>Wx [lg,le] H p=some (pO o)) ps es
def HM(H:Hp)(lg le lr:Addr)(G:cE->Option (Int×Nat))(i j m:Nat)(es:List (Int×Nat)):Prop:=lg≠le/\∃(ls qs ps:List Addr),lr≠lg/\lr≠le/\H lg=some (.lst ((ls++[lr]).map V.ref))/\H lr=some (.lst (qs.map V.ref))/\H le=some (.lst (ps.map V.ref))/\ls.length=i/\qs.length=j/\(∀a l,ls[a]? =some l->KC (Wx [lr,lg,le] H) l G a (m+1))/\(∀b q,qs[b]? =some q->uN (Wx [lr,lg,le] H) q λc=>G (i,b,c))/\Paired (λp o=>Wx [lr,lg,le] H p=some (pO o)) ps es
theorem Q4.row{H:Hp}{lg le lr:Addr}{G:cE->Option (Int×Nat)}{i m:Nat}{es:List (Int×Nat)}{ls:List Addr}(h:Q4 H lg le G i m es)(hr:H lr=none)(hls:H lg=some (.lst (ls.map V.ref))):HM (L2.upd (L2.upd H lr (.lst [])) lg (.lst (ls.map V.ref++[.ref lr]))) lg le lr G i 0 m es:=by
 obtain⟨h0,ls',ps,h1,h2,h3,h4,h5⟩:=h
 rw[hls]at h1
 have el:ls=ls':=vd (by simpa using h1)
 subst el
 have n1:lr≠lg:=λz=>by rw[z,hls]at hr;cases hr
 have n2:lr≠le:=λz=>by rw[z,h2]at hr;cases hr
 have sm:ai (Wx [lg,le] H) (Wx [lr,lg,le] (L2.upd (L2.upd H lr (.lst [])) lg (.lst (ls.map V.ref++[.ref lr])))):=λa u q=>by
  obtain⟨q1,q2⟩:=Wx.out q
  rw[Wx.upd (by simp),Wx.upd (by simp)]
  refine Wx.in (λz=>?_) q2
  rcases List.mem_cons.mp z with z|z
  ·rw[z,hr]at q2;cases q2
  ·exact q1 z
 refine⟨h0,ls,[],ps,n1,n2,by rw[ah,List.map_append];rfl,by rw[ao n1,ah];rfl,by rw[ao (Ne.symm h0),ao (Ne.symm n2)];exact h2,h3,rfl,λa l hl=>(h4 a l hl).same sm,λb q hq=>by simp at hq,Paired.dP h5 λ_ _ z=>sm _ _ z⟩
theorem HM.done{H:Hp}{lg le lr:Addr}{G:cE->Option (Int×Nat)}{i m:Nat}{es:List (Int×Nat)}(h:HM H lg le lr G i (m+1) m es):Q4 H lg le G (i+1) m es:=by
 obtain⟨h0,ls,qs,ps,n1,n2,h1,h2,h3,h4,h5,h6,h7,h8⟩:=h
 have sm:ai (Wx [lr,lg,le] H) (Wx [lg,le] H):=λa u q=>Wx.in (λz=>(Wx.out q).1 (List.mem_cons_of_mem _ z)) (Wx.out q).2
 refine⟨h0,ls++[lr],ps,h1,h3,by rw[List.length_append,h4];rfl,λa l hl=>?_,Paired.dP h8 λ_ _ z=>sm _ _ z⟩
 by_cases ha:a<ls.length
 ·rw[List.getElem?_append_left ha]at hl
  exact(h6 a l hl).same sm
 ·rw[List.getElem?_append_right (by omega)]at hl
  have:a-ls.length<1:=(List.getElem?_eq_some_iff.mp hl).1
  have ea:a=i:=by omega
  subst ea
  rw[h4,Nat.sub_self]at hl
  cases hl
  exact⟨qs,Wx.in (by simp[n1,n2]) h2,h5,λb q hq=>(h7 b q hq).same sm⟩
theorem HM.cell{H:Hp}{lg le lr:Addr}{G:cE->Option (Int×Nat)}{i j m a b:Nat}{es:List (Int×Nat)}(h:HM H lg le lr G i j m es)(hab:(a<i/\b<=m)\/(a=i/\b<j)):sE H lg a b λc=>G (a,b,c):=by
 obtain⟨h0,ls,qs,ps,n1,n2,h1,h2,h3,h4,h5,h6,h7,h8⟩:=h
 rcases hab with⟨ha,hb⟩|⟨rfl,hb⟩
 ·have ha':a<ls.length:=by omega
  obtain⟨rs,r1,r2,r3⟩:=h6 a ls[a] (List.getElem?_eq_getElem ha')
  have hb':b<rs.length:=by omega
  exact⟨_,_,ls[a],rs[b],h1,ee (by rw[List.getElem?_map,List.getElem?_append_left ha',List.getElem?_eq_getElem ha'];rfl),Wx.sub _ _ r1,ee (by rw[List.getElem?_map,List.getElem?_eq_getElem hb'];rfl),(r3 b _ (List.getElem?_eq_getElem hb')).same Wx.sub⟩
 ·have hb':b<qs.length:=by omega
  exact⟨_,_,lr,qs[b],h1,ee (by rw[List.getElem?_map,List.getElem?_append_right (by omega),h4,Nat.sub_self];rfl),h2,ee (by rw[List.getElem?_map,List.getElem?_eq_getElem hb'];rfl),(h7 b _ (List.getElem?_eq_getElem hb')).same Wx.sub⟩
theorem HM.last{H:Hp}{lg le lr:Addr}{G:cE->Option (Int×Nat)}{i j m:Nat}{es:List (Int×Nat)}(h:HM H lg le lr G i j m es):∃(ls qs:List Addr),H lg=some (.lst (ls.map V.ref))/\z0 (ls.map V.ref) (i:Int)=some (.ref lr)/\H lr=some (.lst (qs.map V.ref))/\qs.length=j/\∀H' r,ai H H'->H r=none->uN H' r (λc=>G (i,j,c))->HM (L2.upd H' lr (.lst (qs.map V.ref++[.ref r]))) lg le lr G i (j+1) m es:=by
 obtain⟨h0,ls,qs,ps,n1,n2,h1,h2,h3,h4,h5,h6,h7,h8⟩:=h
 refine⟨ls++[lr],qs,h1,ee (by rw[List.getElem?_map,List.getElem?_append_right (by omega),h4,Nat.sub_self];rfl),h2,h5,λH' r e hr ht=>?_⟩
 have ew:Wx [lr,lg,le] (L2.upd H' lr (.lst (qs.map V.ref++[.ref r])))=Wx [lr,lg,le] H':=Wx.upd (by simp)
 have hL:∀a∈[lr,lg,le],∃xs,H' a=some (.lst xs):=λa ha=>by
  simp only[List.mem_cons,List.not_mem_nil,or_false]at ha
  rcases ha with rfl|rfl|rfl
  ·exact⟨_,e _ _ h2⟩
  ·exact⟨_,e _ _ h1⟩
  ·exact⟨_,e _ _ h3⟩
 have nr:r∉[lr,lg,le]:=λha=>by
  simp only[List.mem_cons,List.not_mem_nil,or_false]at ha
  rcases ha with rfl|rfl|rfl
  ·rw[h2]at hr;cases hr
  ·rw[h1]at hr;cases hr
  ·rw[h3]at hr;cases hr
 refine⟨h0,ls,qs++[r],ps,n1,n2,by rw[ao (Ne.symm n1)];exact e _ _ h1,by rw[ah,List.map_append];rfl,by rw[ao (Ne.symm n2)];exact e _ _ h3,h4,by rw[List.length_append,h5];rfl,λa l hl=>by rw[ew];exact(h6 a l hl).same (Wx.same e),λb q hq=>?_,by rw[ew];exact Paired.dP h8 λ_ _ z=>Wx.same e _ _ z⟩
 rw[ew]
 by_cases hb:b<qs.length
 ·rw[List.getElem?_append_left hb]at hq
  exact(h7 b q hq).same (Wx.same e)
 ·rw[List.getElem?_append_right (by omega)]at hq
  have:b-qs.length<1:=(List.getElem?_eq_some_iff.mp hq).1
  have eb:b=j:=by omega
  subst eb
  rw[h5,Nat.sub_self]at hq
  cases hq
  exact Wx.cut ht nr hL
theorem HM.ends{H:Hp}{lg le lr:Addr}{G:cE->Option (Int×Nat)}{i j m:Nat}{es:List (Int×Nat)}(h:HM H lg le lr G i j m es):∃ps:List Addr,H le=some (.lst (ps.map V.ref))/\ps.length=es.length/\∀H' qs zs,ai H H'->Paired (λp o=>H' p=some (pO o)) qs zs->HM (L2.upd H' le (.lst (ps.map V.ref++qs.map V.ref))) lg le lr G i j m (es++zs):=by
 obtain⟨h0,ls,qs,ps,n1,n2,h1,h2,h3,h4,h5,h6,h7,h8⟩:=h
 refine⟨ps,h3,Paired.len h8,λH' us zs e hz=>?_⟩
 have ew:Wx [lr,lg,le] (L2.upd H' le (.lst (ps.map V.ref++us.map V.ref)))=Wx [lr,lg,le] H':=Wx.upd (by simp)
 refine⟨h0,ls,qs,ps++us,n1,n2,by rw[ao h0];exact e _ _ h1,by rw[ao n2];exact e _ _ h2,by rw[ah,List.map_append],h4,h5,λa l hl=>by rw[ew];exact(h6 a l hl).same (Wx.same e),λb q hq=>by rw[ew];exact(h7 b q hq).same (Wx.same e),?_⟩
 rw[ew]
 refine rQ (Paired.dP h8 λ_ _ z=>Wx.same e _ _ z) (Paired.dP hz λp o z=>Wx.in (λha=>?_) z)
 simp only[List.mem_cons,List.not_mem_nil,or_false]at ha
 rcases ha with rfl|rfl|rfl
 ·rw[e _ _ h2]at z;cases z
 ·rw[e _ _ h1]at z;cases z
 ·rw[e _ _ h3]at z;cases z
theorem uN.some{H:Hp}{f:Nat->Option (Int×Nat)}{vs:List V}(h:Paired (λv c=>vv H (f c) v) vs pA):∃ps:List Addr,((List.range 3).filter λk=>(f (pA.getD k 0)).isSome).map (λk=>vs.getD k .iz)=ps.map V.ref/\Paired (λp o=>H p=some (pO o)) ps (pA.filterMap f):=by
 have hl:vs.length=3:=Paired.len h
 match vs,hl with
 |[v0,v1,v2],_ =>
  obtain⟨c0,e0,o0⟩:=GP.Paired.at (i:=0) h rfl
  obtain⟨c1,e1,o1⟩:=GP.Paired.at (i:=1) h rfl
  obtain⟨c2,e2,o2⟩:=GP.Paired.at (i:=2) h rfl
  cases e0
  cases e1
  cases e2
  show ∃ps:List Addr,((List.filter _ [0,1,2]).map _=_/\Paired _ ps (List.filterMap f [112,97,98]))
  cases h0:f 112<;>cases h1:f 97<;>cases h2:f 98<;>rw[h0]at o0<;>rw[h1]at o1<;>rw[h2]at o2<;>simp only[List.filter_cons,List.filterMap_cons,List.filter_nil,List.filterMap_nil,pA,List.getD_cons_zero,List.getD_cons_succ,h0,h1,h2,Option.isSome_none,Option.isSome_some,if_true,if_false,Bool.false_eq_true,List.map_cons,List.map_nil]
  ·exact⟨[],rfl,.nil⟩
  ·obtain⟨p,rfl,hp⟩:=o2;exact⟨[p],rfl,.cons hp .nil⟩
  ·obtain⟨p,rfl,hp⟩:=o1;exact⟨[p],rfl,.cons hp .nil⟩
  ·obtain⟨p,rfl,hp⟩:=o1;obtain⟨q,rfl,hq⟩:=o2;exact⟨[p,q],rfl,.cons hp (.cons hq .nil)⟩
  ·obtain⟨p,rfl,hp⟩:=o0;exact⟨[p],rfl,.cons hp .nil⟩
  ·obtain⟨p,rfl,hp⟩:=o0;obtain⟨q,rfl,hq⟩:=o2;exact⟨[p,q],rfl,.cons hp (.cons hq .nil)⟩
  ·obtain⟨p,rfl,hp⟩:=o0;obtain⟨q,rfl,hq⟩:=o1;exact⟨[p,q],rfl,.cons hp (.cons hq .nil)⟩
  ·obtain⟨p,rfl,hp⟩:=o0;obtain⟨q,rfl,hq⟩:=o1;obtain⟨r,rfl,hr⟩:=o2;exact⟨[p,q,r],rfl,.cons hp (.cons hq (.cons hr .nil))⟩
end GP
set_option Elab.async false
set_option linter.all false
set_option maxRecDepth 100000
set_option maxHeartbeats 4000000
seal PySem.wpAny
namespace T4
open PySem L2 sy GP
def top(i:Nat):Stmt:=PySem.Challenge.pw_gapweave_k23_counted.main.body.getD i (.Pass ⟨0,0,0,0⟩)
abbrev ue(K:PySem.W.Frag):Lm:=⟨eY K "first_begin",⟨187,34,187,65⟩,(("first_begin" :Str)++ ".<locals>.")++ "<lambda>",eY K "state_behind",⟨189,40,189,77⟩,(("state_behind" :Str)++ ".<locals>.")++ "<lambda>"⟩
theorem kF{N P:List Str}{sc:Scope}(a:sc.kind=.function:=by rfl)(b:sc.isCoroutine=false:=by rfl)(c:sc.isGenerator=false:=by rfl)(d:N.Nodup:=by decide +kernel)(e:N.take P.length=P:=by rfl)(f:∀x∈P,sc.names.lookup x=some .local\/sc.names.lookup x=some .cell:=by decide +kernel)(g:∀y∈sc.names,y.2≠.free:=by decide +kernel):aH N P sc:=⟨a,b,c,d,e,f,g⟩
abbrev bU:Stmt:=inClass (top 4) 0
theorem rN:aH ["self","row","place"] ["self","row","place"] (ay bU):=kF
abbrev cY:Stmt:=top 6
theorem gb:aH ["one","other","rest"] ["one","other"] (ay cY):=kF
abbrev sQ:Stmt:=top 7
theorem zC:aH ["fraction","divisor"] ["fraction"] (ay sQ):=kF
abbrev qH:Stmt:=top 12
theorem wW:aH ["sign","number"] ["sign"] (ay qH):=kF
abbrev nK:Stmt:=top 13
theorem Au:aH ["text"] ["text"] (ay nK):=kF
abbrev lA:Stmt:=top 14
theorem wY:aH ["signs"] ["signs"] (ay lA):=kF
abbrev jm:Stmt:=top 15
theorem ow:aH ["signs","pairs","row"] ["signs","pairs"] (ay jm):=kF
abbrev iF:Stmt:=top 16
theorem vC:aH ["price"] ["price"] (ay iF):=kF
abbrev jk:Stmt:=top 17
theorem uu:aH ["row"] ["row"] (ay jk):=kF
abbrev mz:Stmt:=top 18
theorem nW:aH ["pairs","opening","more","unders","row"] ["pairs","opening","more"] (ay mz):=kF
abbrev jV:Stmt:=top 19
theorem fk:aH ["unders","factors","unit","under","factor"] ["unders"] (ay jV):=kF
abbrev lZ:Stmt:=top 20
theorem kZ:aH ["factors","product","factor"] ["factors"] (ay lZ):=kF
abbrev oA:Stmt:=top 21
theorem Ek:aH ["price","unit"] ["price","unit"] (ay oA):=kF
abbrev iM:Stmt:=top 22
theorem dD:aH ["signs","pairs","unit","costs","one","row","other","price"] ["signs","pairs","unit"] (ay iM):=kF
abbrev bT:Stmt:=inClass (top 23) 0
theorem rM:aH ["self","signs","pairs","opening","more"] ["self","signs","pairs","opening","more"] (ay bT):=kF
abbrev lJ:Stmt:=top 24
theorem Ao:aH ["prices","one","other"] ["prices","one","other"] (ay lJ):=kF
abbrev iE:Stmt:=top 25
theorem vB:aH ["prices"] ["prices"] (ay iE):=kF
abbrev lK:Stmt:=top 26
theorem Aq:aH ["prices"] ["prices"] (ay lK):=kF
abbrev mS:Stmt:=top 27
theorem iC:aH ["prices","number","over","under","factor","divisor"] ["prices","number"] (ay mS):=kF
abbrev lC:Stmt:=top 30
theorem iD:aH ["known","rows","number","row","place","sign"] ["known","rows"] (ay lC):=kF
abbrev mq:Stmt:=top 31
theorem yu:aH ["prices","rows"] ["prices","rows"] (ay mq):=kF
abbrev j0:Stmt:=top 32
theorem vD:aH ["manner"] ["manner"] (ay j0):=kF
abbrev mw:Stmt:=top 33
theorem yw:aH ["prices","move","came"] ["prices","move","came"] (ay mw):=kF
abbrev nB:Stmt:=top 34
theorem Ar:aH ["manner","place"] ["manner","place"] (ay nB):=kF
abbrev qD:Stmt:=top 35
theorem Ei:aH ["manner","first","second","place"] ["manner","first","second","place"] (ay qD):=kF
abbrev mD:Stmt:=top 38
theorem k6:aH ["first","second","places","i","j"] ["first","second"] (ay mD):=kF
abbrev lY:Stmt:=top 39
theorem kY:aH ["prices","first","second","place","came","i","j","steps"] ["prices","first","second","place","came"] (ay lY):=kF
abbrev nL:Stmt:=top 40
theorem lX:aH ["prices","first","second","places","steps","place","came"] ["prices","first","second","places"] (ay nL):=kF
abbrev oU:Stmt:=top 41
theorem pU:aH ["first","second","places","manner","ends","place"] ["first","second","places","manner"] (ay oU):=kF
abbrev bL:Stmt:=inClass (top 42) 0
theorem mR:aH ["self","prices","first","second","manner","places"] ["self","prices","first","second","manner"] (ay bL):=kF
abbrev je:Stmt:=top 43
theorem jR:aH ["ground","rests","state","costs"] ["ground"] (ay je):=kF
abbrev jZ:Stmt:=top 44
theorem yt:aH ["ground","rests","state"] ["ground","rests","state"] (ay jZ):=kF
abbrev jf:Stmt:=top 45
theorem wX:aH ["ground","rests"] ["ground","rests"] (ay jf):=kF
abbrev jW:Stmt:=top 46
theorem vA:aH ["ground","rests","state"] ["ground","rests","state"] (ay jW):=kF
abbrev ly:Stmt:=top 47
theorem jU:aH ["ground","rests","begin","state","moves"] ["ground","rests","begin"] (ay ly):=kF
abbrev oS:Stmt:=top 48
theorem ny:aH ["prices","first","second","manner","ground","rests","begin"] ["prices","first","second","manner"] (ay oS):=kF
abbrev mE:Stmt:=top 49
theorem fY:aH ["ground","rests","counts","state","many","behind","cost"] ["ground","rests"] (ay mE):=kF
abbrev mT:Stmt:=top 50
theorem lH:aH ["prices","first","second","manner","ground","rests","counts","least"] ["prices","first","second","manner"] (ay mT):=kF
abbrev fZ:Stmt:=top 52
theorem pS:aH ["_law_script","_law_at","_law_cell","_law_m"] ["_law_script","_law_at"] (ay fZ):=kF
abbrev nJ:Stmt:=top 53
theorem oR:aH ["_law_script","_law_at","_law_m","_law_cell"] ["_law_script","_law_at"] (ay nJ):=kF
abbrev nF:Stmt:=top 54
theorem jS:aH ["_law_script","_law_at","_law_many","_law_every","_law_m","_law_step"] ["_law_script","_law_at","_law_many"] (ay nF):=kF
abbrev nG:Stmt:=top 55
theorem sN:aH ["_law_script","_law_at","_law_sort","_law_m"] ["_law_script","_law_at","_law_sort"] (ay nG):=kF
abbrev nE:Stmt:=top 56
theorem dU:aH ["_law_script","_law_at","_law_many","_law_m","_law_sort","_law_signs_here","_law_pairs","_law_k","_law_j","_law_opening","_law_more"] ["_law_script","_law_at","_law_many"] (ay nE):=kF
abbrev mh:Stmt:=top 57
theorem jd:aH ["_law_script","_law_at","_law_signs_here","_law_pairs","_law_opening","_law_more"] ["_law_script","_law_at"] (ay mh):=kF
abbrev qF:Stmt:=top 58
theorem jq:aH ["_law_script","_law_at","_law_signs_here","_law_most","_law_m","_law_sort","_law_row_here","_law_k"] ["_law_script","_law_at","_law_signs_here","_law_most"] (ay qF):=kF
abbrev mj:Stmt:=top 59
theorem yr:aH ["_law_m"] ["_law_m"] (ay mj):=kF
abbrev kH:Stmt:=top 60
theorem uW:aH ["_law_found","_law_due"] ["_law_found","_law_due"] (ay kH):=kF
abbrev qG:Stmt:=top 61
theorem Ej:aH ["_law_prices_here","_law_goes_on"] ["_law_prices_here","_law_goes_on"] (ay qG):=kF
abbrev jl:Stmt:=top 62
theorem uv:aH ["_law_manner_here","_law_i","_law_j"] ["_law_manner_here","_law_i","_law_j"] (ay jl):=kF
abbrev lu:Stmt:=top 63
theorem wV:aH ["_law_manner_here","_law_first","_law_second","_law_i","_law_j"] ["_law_manner_here","_law_first","_law_second","_law_i","_law_j"] (ay lu):=kF
abbrev jY:Stmt:=top 64
theorem qU:aH ["_law_ones","_law_least"] ["_law_ones"] (ay jY):=kF
abbrev nH:Stmt:=top 65
theorem As:aH ["_law_three_here","_law_costs"] ["_law_three_here","_law_costs"] (ay nH):=kF
abbrev nD:Stmt:=top 66
theorem fJ:aH ["_law_prices_here","_law_first","_law_second","_law_manner_here","_law_grid","_law_i","_law_j","_law_plain","_law_more","_law_ones","_law_down","_law_beside"] ["_law_prices_here","_law_first","_law_second","_law_manner_here","_law_grid","_law_i","_law_j"] (ay nD):=kF
abbrev k9:Stmt:=top 67
theorem gh:aH ["_law_prices_here","_law_first","_law_second","_law_manner_here","_law_told","e"] ["_law_prices_here","_law_first","_law_second","_law_manner_here"] (ay k9):=kF
abbrev jX:Stmt:=top 68
theorem cS:aH ["_law_m","_law_prices_here","_law_first","_law_second","_law_other","_law_rows","_law_due","_law_k","_law_row_here","_law_spot"] ["_law_m","_law_prices_here","_law_first","_law_second"] (ay jX):=kF
abbrev k8:Stmt:=top 69
theorem jT:aH ["_law_m","_law_prices_here","_law_first","_law_second","_law_rows","_law_due","_law_told"] ["_law_m","_law_prices_here","_law_first","_law_second"] (ay k8):=kF
abbrev qV:Stmt:=top 70
theorem mQ:aH ["_law_script","_law_at","_law_prices_here","_law_first","_law_second","_law_manner_here","_law_grid","_law_ends","_law_i","_law_j","_law_due"] ["_law_script"] (ay qV):=kF
abbrev l4:List Str:=["_law_script","_law_at"]
abbrev l5:List Str:=["prices"]
abbrev l6:List Str:=["ground","rests","state"]
abbrev l7:List Str:=["ground","rests"]
abbrev l8:List Str:=["prices","first","second","manner"]
abbrev JD:List Str:=["price"]
abbrev KY:List Str:=["_law_script","_law_at","_law_many"]
abbrev KW:List Str:=["_law_found","_law_due"]
abbrev KU:List Str:=["_law_m","_law_prices_here","_law_first","_law_second"]
abbrev LS:List Str:=["one","other"]
abbrev MV:List Str:=["self","prices","first","second","manner"]
abbrev PD:List Str:=["price","unit"]
abbrev PC:List Str:=["prices","one","other"]
abbrev PB:List Str:=["prices","number"]
abbrev Pz:List Str:=["ground"]
abbrev Py:List Str:=["_law_ones"]
abbrev QM:List Str:=["self","signs","pairs","opening","more"]
abbrev QL:List Str:=["self","row","place"]
abbrev QK:List Str:=["_law_script"]
abbrev Sn:List Str:=["fraction"]
abbrev Sl:List Str:=["pairs","opening","more"]
abbrev Sk:List Str:=["signs","pairs"]
abbrev Sj:List Str:=["signs","pairs","unit"]
abbrev Si:List Str:=["known","rows"]
abbrev Sh:List Str:=["prices","rows"]
abbrev Sg:List Str:=["prices","move","came"]
abbrev Sf:List Str:=["manner","place"]
abbrev Se:List Str:=["manner","first","second","place"]
abbrev Sd:List Str:=["first","second"]
abbrev Sb:List Str:=["prices","first","second","place","came"]
abbrev Sa:List Str:=["prices","first","second","places"]
abbrev R9:List Str:=["first","second","places","manner"]
abbrev R8:List Str:=["ground","rests","begin"]
abbrev R7:List Str:=["_law_script","_law_at","_law_sort"]
abbrev R6:List Str:=["_law_script","_law_at","_law_signs_here","_law_most"]
abbrev R5:List Str:=["_law_prices_here","_law_goes_on"]
abbrev R4:List Str:=["_law_manner_here","_law_i","_law_j"]
abbrev R3:List Str:=["_law_manner_here","_law_first","_law_second","_law_i","_law_j"]
abbrev R1:List Str:=["_law_three_here","_law_costs"]
abbrev R0:List Str:=["_law_prices_here","_law_first","_law_second","_law_manner_here","_law_grid","_law_i","_law_j"]
abbrev RZ:List Str:=["_law_prices_here","_law_first","_law_second","_law_manner_here"]
abbrev Xb:List Str:=["behind","cost","rests"]
abbrev Xa:List Str:=["_law_one","_law_cost"]
abbrev Zw:List Str:=["_law_k","_law_every","_law_m","_law_step"]
abbrev Zv:List Str:=["_law_j","_law_script","_law_at","_law_many","_law_sort"]
abbrev Zu:List Str:=["_law_k","_law_script","_law_at","_law_sort"]
structure Pm where
 lV:Tok
 ni:Tok
 jv:Addr
 kU:Addr
 pB:Addr
 au:Addr
 aK:Addr
 fX:Addr
 aG:Addr
 aB:Addr
structure Txt(K:PySem.W.Frag)(mg:Str->Option Value)(p:Pm)(base:Heap):Prop where
 Q6:mg "abs" =none
 eV:mg "len" =none
 z_ord:mg "ord" =none
 Q5:mg "set" =none
 qB:mg "tuple" =none
 Fl:mg "zip" =none
 uS:mg "enumerate" =none
 jP:mg "range" =none
 bx:mg "isinstance" =none
 Fq:mg "int" =none
 Ic:mg "bool" =none
 MC:mg "all" =none
 uf:mg "list" =none
 Fo:mg "str" =none
 Fp:mg "min" =none
 wm:mg "reversed" =none
 MB:mg "sum" =none
 A8:mg "FIRST_SIGN" =some (.int 32 p.lV)
 Dg:mg "LAST_SIGN" =some (.int 126 p.ni)
 ET:mg "NO_SIGNS" =some (.ref p.jv)
 En:∀H:Hp,dR K H p.jv [.int 34,.int 37,.int 45]
 Hs:mg "MANNERS" =some (.ref p.kU)
 GQ:∀H:Hp,dR K H p.kU [.str (Str.ofString "whole"),.str (Str.ofString "within"),.str (Str.ofString "over"),.str (Str.ofString "stretch")]
 Qj:mg "CAME" =some (.ref p.pB)
 IY:∀H:Hp,dR K H p.pB [.str (Str.ofString "p"),.str (Str.ofString "a"),.str (Str.ofString "b")]
 G4:mg "Prices" =some (.ref p.au)
 bq:MA K p.au
 gj:bN K p.au "signs"
 mY:bN K p.au "pairs"
 kJ:bN K p.au "opening"
 nY:bN K p.au "more"
 kK:bN K p.au "factors"
 lE:bN K p.au "unit"
 qa:bN K p.au "costs"
 j6:bN K p.au "opening_units"
 lT:bN K p.au "more_units"
 zH:mg "Ground" =some (.ref p.aK)
 fH:MA K p.aK
 gk:bN K p.aK "steps"
 lS:bN K p.aK "begins"
 nZ:bN K p.aK "ends"
 yJ:mg "WeaveError" =some (.ref p.fX)
 qe:mg "NoManner" =some (.ref p.aG)
 BV:KA K p.aG
 BW:XB K p.aG
 BS:Nh K p.aG
 uF:mg "NoSign" =some (.ref p.aB)
 GC:XB K p.aB
 ug:Nh K p.aB
 zl:Tv K p.aB
 GB:∃f,Gx K p.aB f
 sZ:bN K p.aB "row"
 qb:bN K p.aB "place"
 yp:XBase K p.fX
 uI:PySem.W.subIn K (.ref p.aB) (.ref p.aB)=some true
 rW:PySem.W.subIn K (.ref p.aG) (.ref p.aB)=some false
 qj:PySem.W.subIn K (.ref p.aG) (.ref p.aG)=some true
 rX:PySem.W.kitOne K (.ref p.aB) (.ref p.aG)=some false
 rY:PySem.W.kitOne K (.ref p.aG) (.ref p.aB)=some false
 bm:Nq base mg
 xK:pH K "first_begin" =true
 xJ:∀f,mg "first_begin" =some (.ref f)->PySem.W.nsIn K mainGlobals "first_begin" =some (some (.ref f))
 vM:pH K "state_behind" =true
 vL:∀f,mg "state_behind" =some (.ref f)->PySem.W.nsIn K mainGlobals "state_behind" =some (some (.ref f))
theorem Qx:bootBuiltins "abs" =some (.builtin "abs"):=by decide +kernel
theorem ck:bootBuiltins "len" =some (.builtin "len"):=by decide +kernel
theorem Qw:bootBuiltins "ord" =some (.builtin "ord"):=by decide +kernel
theorem Qv:bootBuiltins "set" =some (.type "set"):=by decide +kernel
theorem oN:bootBuiltins "tuple" =some (.type "tuple"):=by decide +kernel
theorem aZ:bootBuiltins "isinstance" =some (.builtin "isinstance"):=by decide +kernel
theorem Bq:bootBuiltins "int" =some (.type "int"):=by decide +kernel
theorem Gr:bootBuiltins "bool" =some (.type "bool"):=by decide +kernel
theorem Ky:bootBuiltins "all" =some (.builtin "all"):=by decide +kernel
theorem qO:bootBuiltins "list" =some (.type "list"):=by decide +kernel
theorem Bo:bootBuiltins "str" =some (.type "str"):=by decide +kernel
theorem Bp:bootBuiltins "min" =some (.builtin "min"):=by decide +kernel
theorem Kw:bootBuiltins "sum" =some (.builtin "sum"):=by decide +kernel
section
variable{P:Program}{w:World}{K:PySem.W.Frag}{mg:Str->Option Value}{base:Heap}
theorem qQ {bf:Addr} {aV:FuncData} {p:Pm} (T:Txt K mg p base) (aJ:Dn K mg "greatest_divisor" cY LS bf aV)  :aI P w K mg base b8 1 bf aV LS FG:=by
 refine aJ.fn.ok gb (λvs H Q E h=>?_) (λcdv A outer s H vs Q E hr h=>?_)
 ·obtain⟨a,b,rfl,_⟩:=h
  rfl
 ·obtain⟨a,b,rfl,hb,k⟩:=h
  refine⟨_,(aj (Cy PassesOwn.never (aR xj (pv 1) ak (aO _)) (aj (aD (i:=2) gb.nd rfl (Or.inl rfl) (aE cj (pv 0) (pv 1)))
   (aj (aD (i:=0) gb.nd rfl (Or.inl rfl) (pv 1))
   (aq (aD (i:=1) gb.nd rfl (Or.inl rfl) (pv 2))))))
   (aq (aL (aC (Ks) rfl T.Q6 Qx (aa (pv 0) af))))),?_⟩
  refine⟨λm σ H'=>H'=H/\∃(x y:Int) (r:Option V),σ=[some (.int x),some (.int y),r]/\0<=y/\Int.gcd x y=Int.gcd a b/\m=y.toNat,⟨b.toNat,rfl,a,b,none,rfl,hb,rfl,rfl⟩,?_⟩
  rintro m σ H' ⟨rfl,x,y,r,rfl,hy,hg,rfl⟩
  refine⟨_,rfl,rfl,_,rfl,?_⟩
  refine xO (λh0=>?_) (λh0=>?_)
  ·have l1:=Int.emod_nonneg x h0
   have l2:=Int.emod_lt_of_pos x (show 0<y by omega)
   refine⟨λσ' Np=>Np=H'/\∃r,σ'=[some (.int y),some (.int (x % y)),r],?_,?_⟩
   ·rintro σ' Np ⟨rfl,r,rfl⟩
    exact⟨(x % y).toNat,by omega,rfl,y,x % y,r,rfl,l1,(JV x y).trans hg,rfl⟩
   ·exact⟨_,rfl,_,rfl,_,_,rfl,rfl,(by show 0<y;omega),_,rfl,_,rfl,rfl,_,rfl⟩
  ·subst h0
   refine⟨_,rfl,_,rfl,?_⟩
   rw[Mh,hg]
   exact k
theorem GV {oK bf:Addr} {mG aV:FuncData} {p:Pm} (T:Txt K mg p base) (lO:Dn K mg "lowest" sQ Sn oK mG) (aJ:Dn K mg "greatest_divisor" cY LS bf aV) (ff:aI P w K mg base b8 1 bf aV LS FG):aI P w K mg base b8 2 oK mG Sn (MJ K):=by
 refine lO.fn.ok zC (λvs H Q E h=>?_) (λcdv A outer s H vs Q E hr h=>?_)
 ·obtain⟨p,f,rfl,_⟩:=h
  rfl
 ·obtain⟨p,⟨a,b⟩,rfl,hS,hb,hb2,k⟩:=h
  have hb0:0<b:=hb
  have g1:=o5 a hb0
  have g2:=ES a hb0
  have hb':b<1073741824:=hb2
  refine⟨_,(aj (aD (i:=1) zC.nd rfl (Or.inl rfl) (az ff (hr.mono (by decide)) rfl aJ.m aJ.fn.kp aJ.b .nil aN (aa (aW cX (pv 0) ak (λ_ _=>rfl)) (aa (aW cX (pv 0) ak (λ_ _=>rfl)) af))))
   (aq (aL (bG (aa (aE dG (aW cX (pv 0) ak (λ_ _=>rfl)) (pv 1)) (aa (aE dG (aW cX (pv 0) ak (λ_ _=>rfl)) (pv 1)) af)))))),?_⟩
  refine⟨_,rfl,_,_,_,_,rfl,rfl,hS,rfl,_,rfl,_,_,_,_,rfl,rfl,hS,rfl,a,b,rfl,Int.le_of_lt hb,?_⟩
  refine⟨_,rfl,_,_,_,_,rfl,rfl,hS,rfl,_,rfl,_,_,rfl,rfl,⟨g1,by omega⟩,_,rfl,_,_,_,_,rfl,rfl,hS,rfl,_,rfl,_,_,rfl,rfl,⟨g1,by omega⟩,?_⟩
  exact⟨by show 2<=sizeLine;decide,λq hq=>k q hq⟩
theorem vH {cO oK:Addr} {cg mG:FuncData} {p:Pm} (T:Txt K mg p base) (bh:Dn K mg "lowest_price" iF JD cO cg) (lO:Dn K mg "lowest" sQ Sn oK mG) (KI:aI P w K mg base b8 2 oK mG Sn (MJ K)):aI P w K mg base b8 3 cO cg JD (rL K):=by
 refine bh.fn.ok vC (λvs H Q E h=>?_) (λcdv A outer s H vs Q E hr h=>?_)
 ·obtain⟨p,f,rfl,_⟩:=h
  rfl
 ·obtain⟨p,f,rfl,hS,⟨h1,h2⟩,k⟩:=h
  refine⟨_,(aj (bO (aR CF (aW cX (pv 0) ak (λ_ _=>rfl)) ak (aO _)) fq aS)
   (aq (aL (az KI (hr.mono (by decide)) rfl lO.m lO.fn.kp lO.b .nil aN (aa (pv 0) af))))),?_⟩
  refine⟨_,rfl,_,_,_,_,rfl,rfl,hS,rfl,_,_,rfl,rfl,_,rfl,?_⟩
  refine cD (λz=>absurd z (by omega)) λ_=>?_
  exact⟨_,rfl,p,f,rfl,hS,by omega,h2,k⟩
theorem uy {fE cO:Addr} {eL cg:FuncData} {p:Pm} (T:Txt K mg p base) (cT:Dn K mg "lowest_prices" jk ["row"] fE eL) (bh:Dn K mg "lowest_price" iF JD cO cg) (kj:aI P w K mg base b8 3 cO cg JD (rL K)):aI P w K mg base b8 4 fE eL ["row"] (uV K):=by
 refine cT.fn.ok uu (λvs H Q E h=>?_) (λcdv A outer s H vs Q E hr h=>?_)
 ·obtain⟨c,fs,rfl,_⟩:=h
  rfl
 ·obtain⟨c,fs,rfl,⟨ps,hc,hp⟩,ho,hz,k⟩:=h
  have hl:=Paired.len hp
  refine⟨_,(aq (aL (kI (rz) rfl T.qB oN (aa (nM (N:=JD) rfl (λ_=>⟨[],cG.plain (by decide +kernel) rfl (by decide +kernel) (by decide +kernel)⟩) (Cz (pv 0)) (λ_ _ _ _ _ _ _=>(aM (i:=0) (show(JD:List Str).Nodup by decide +kernel) rfl (Or.inl rfl))) (λ_ _ _ _ _ _ _=>(az kj (hr.mono (by decide)) rfl bh.m bh.fn.kp bh.b .nil aN (aa (pv 0) af)))) af)))),?_⟩
  refine⟨_,rfl,c,_,rfl,hc,λl SY=>?_⟩
  refine⟨λi m ys H2=>m=fs.length-i/\i<=fs.length/\ai H H2/\H2 l=some (.lst ys)/\∃qs:List Addr,ys=qs.map V.ref/\qs.length=i/\Paired (λq f=>H2 q=some (.tup [.int f.1,.int f.2])) qs ((fs.map kD).take i),⟨fs.length,rfl,Nat.zero_le _,ai.upd SY,ah,[],rfl,rfl,.nil⟩,?_⟩
  rintro i m ys H2 ⟨rfl,hi,s2,hl2,qs,rfl,hq,hP⟩
  have zc:c.at K H2 (ps.map V.ref):=ai.cp s2 hc
  by_cases hlt:i<fs.length
  ·have ZL:i<ps.length:=by omega
   have e1:(ps.map V.ref)[i]? =some (.ref ps[i]):=by rw[List.getElem?_map,List.getElem?_eq_getElem ZL];rfl
   refine .inr ⟨⟨_,_,zc,e1⟩,?_⟩
   rintro x H3 ⟨rfl,hx⟩
   have ex:=hx _ zc
   rw[e1]at ex
   cases ex
   obtain⟨f,ef,hf⟩:=Paired.at hp (List.getElem?_eq_getElem ZL)
   refine⟨Kp.rep _ _,?_⟩
   refine⟨_,rfl,ps[i],f,rfl,hf.same s2,ho f (List.mem_of_getElem? ef),λq hqn=>?_⟩
   have Ul:q≠l:=λz=>by rw[z,hl2]at hqn;cases hqn
   refine⟨by rw[ao (Ne.symm Ul)];exact hl2,?_,fs.length-(i+1),by omega,rfl,hlt,ai.at (s2.trans (ai.upd hqn)) SY,ah,qs++[q],by rw[List.map_append];rfl,by rw[List.length_append,hq];rfl,?_⟩
   ·rw[List.length_map,hq]
    exact Nat.lt_of_lt_of_le hlt (Nat.le_trans hz (by decide))
   ·rw[qZ ef]
    refine GP.Paired.snoc (Paired.dP hP λa b z=>?_) ?_
    ·have n1:a≠q:=aP z hqn
     have n2:a≠l:=pZ z hl2 (by intro z;cases z)
     rw[ao n2,ao n1]
     exact z
    ·rw[ao Ul]
     exact ah
  ·have ei:i=fs.length:=by omega
   subst ei
   refine .inl ⟨⟨_,zc,by rw[List.length_map];omega⟩,?_⟩
   refine⟨l,_,rfl,.inl ⟨bI.of hl2,λq hqn=>?_⟩⟩
   refine k q _ (s2.trans (ai.upd hqn)) (ai.free s2 hqn) ⟨qs,dR.of ah,?_⟩
   rw[List.take_of_length_le (by rw[List.length_map];exact Nat.le_refl _)]at hP
   exact Paired.dP hP λa b z=>dR.of (by rw[ao (aP z hqn)];exact z)
theorem yG {i9:Addr} {g7:FuncData} {p:Pm} (T:Txt K mg p base) (fU:Dn K mg "all_unders" mz Sl i9 g7)  :aI P w K mg base b8 1 i9 g7 Sl (Cd K):=by
 refine fU.fn.ok nW (λvs H Q E h=>?_) (λcdv A outer s H vs Q E hr h=>?_)
 ·obtain⟨Pp,o,m,rows,fo,fm,rfl,_⟩:=h
  rfl
 ·obtain⟨Pp,o,m,rows,fo,fm,rfl,⟨cs,hc,hp⟩,hfo,hfm,abz,PZ,k⟩:=h
  refine⟨_,(aj (aD (i:=3) nW.nd rfl (Or.inl rfl) (eX (aa (aW cX (pv 1) ak (λ_ _=>rfl)) (aa (aW cX (pv 2) ak (λ_ _=>rfl)) af))))
   (aj (eW PassesOwn.never rfl (Cz (pv 0)) (aM (i:=4) nW.nd rfl (Or.inl rfl)) (aq (dF (mU PySem.F.plainAttrs_list PySem.F.slot_list_extend PySem.F.type_list_extend uE (pv 3) (aa (nM (N:=JD) rfl (λ_=>⟨[],cG.plain (by decide +kernel) rfl (by decide +kernel) (by decide +kernel)⟩) (Cz (pv 4)) (λ_ _ _ _ _ _ _=>(aM (i:=0) (show(JD:List Str).Nodup by decide +kernel) rfl (Or.inl rfl))) (λ_ _ _ _ _ _ _=>(aW (qM (K':=K) rfl) (pv 0) ak (λ_ _=>rfl)))) af)))))
   (aq (aL (pv 3))))),?_⟩
  refine⟨_,rfl,_,_,_,_,rfl,rfl,hfo,rfl,_,rfl,_,_,_,_,rfl,rfl,hfm,rfl,(by show 2<=sizeLine;decide),λl hl=>?_⟩
  have Yz:∀i,((rows.take i).flatten.map (·.2)).length<=12*12:=λi=>by
   have:∀(q:List (List cJ)),(∀r∈q,r.length<=12)->q.flatten.length<=12*q.length:=λq=>by
    induction q with
    |nil=>intro _;simp
    |cons r q ih =>
     intro h
     have a:=h r List.mem_cons_self
     have b:=ih λr' hr=>h r' (List.mem_cons_of_mem _ hr)
     rw[List.flatten_cons,List.length_append,List.length_cons]
     omega
   have a:=this (rows.take i) λr hr=>PZ r (List.mem_of_mem_take hr)
   have b:(rows.take i).length<=12:=by rw[List.length_take];omega
   rw[List.length_map]
   omega
  refine⟨_,rfl,.tup Pp,_,rfl,ai.cp (ai.upd hl) (c:=.tup Pp) hc,JX (K:=K) (c:=.tup Pp) (xs:=cs.map Cp.val) (λi σ H2=>∃v4,σ=[some (.ref Pp),some (.ref o),some (.ref m),some (.ref l),v4]/\ai H H2/\H2 l=some (.lst ((fo.2::fm.2::(rows.take i).flatten.map (·.2)).map V.int)))
   ⟨_,rfl,ai.upd hl,ah⟩ (λi σ H2 _ ⟨_,_,s2,_⟩=>ai.cp s2 hc) ?_ ?_⟩
  ·rintro i x σ H2 hx ⟨v4,rfl,s2,hl2⟩
   obtain⟨c,ec,rfl⟩:=kL hx
   obtain⟨row,er,⟨ps,hc2,hp2⟩⟩:=Paired.at hp ec
   have S5:=ai.cp s2 hc2
   refine⟨_,rfl,.inl ⟨rfl,_,bI.of hl2⟩,?_⟩
   refine⟨_,rfl,c,_,rfl,S5,λlx hlx=>?_⟩
   refine⟨λj m' ys H3=>m'=row.length-j/\j<=row.length/\ai H2 H3/\H3 lx=some (.lst ys)/\ys=((row.take j).map (·.2)).map V.int,⟨row.length,rfl,Nat.zero_le _,ai.upd hlx,ah,rfl⟩,?_⟩
   rintro j m' ys H3 ⟨rfl,hj,s3,P9,rfl⟩
   have zr:=ai.cp s3 S5
   by_cases Uz:j<row.length
   ·have ZK:j<ps.length:=by rw[Paired.len hp2];exact Uz
    have e1:(ps.map V.ref)[j]? =some (.ref ps[j]):=by rw[List.getElem?_map,List.getElem?_eq_getElem ZK];rfl
    refine .inr ⟨⟨_,_,zr,e1⟩,?_⟩
    rintro y H4 ⟨rfl,Sz⟩
    have ey:=Sz _ zr
    rw[e1]at ey
    cases ey
    refine⟨Kp.rep _ _,?_⟩
    obtain⟨f,ef,hf⟩:=Paired.at hp2 (List.getElem?_eq_getElem ZK)
    have hf':=hf.same (s2.trans s3)
    refine⟨_,rfl,_,_,_,_,rfl,rfl,hf',rfl,?_⟩
    refine⟨P9,?_,row.length-(j+1),by omega,rfl,Uz,ai.at s3 hlx,ah,?_⟩
    ·rw[List.length_map,List.length_map,List.length_take]
     have:=PZ row (List.mem_of_getElem? er)
     exact Nat.lt_of_lt_of_le (show min j row.length<100 by omega) (by decide)
    ·rw[take_snoc ef,List.map_append,List.map_append]
     rfl
   ·have ej:j=row.length:=by omega
    subst ej
    rw[List.take_of_length_le (Nat.le_refl _)]at P9
    refine .inl ⟨⟨_,zr,by rw[List.length_map,Paired.len hp2];exact Nat.le_refl _⟩,?_⟩
    have hl3:=s3 _ _ hl2
    refine⟨l,lx,_,_,rfl,rfl,hl3,P9,?_,?_⟩
    ·have a:=Yz i
     have a2:=PZ row (List.mem_of_getElem? er)
     have a3:((fo.2::fm.2::(rows.take i).flatten.map (·.2)).map V.int).length+((row.map (·.2)).map V.int).length<=200:=by
      rw[List.length_map,List.length_cons,List.length_cons,List.length_map,List.length_map,List.length_map]
      rw[List.length_map]at a
      omega
     exact Nat.le_trans a3 (by decide)
    refine⟨_,rfl,ai.at (s2.trans s3) hl,?_⟩
    rw[ah,take_snoc er,List.flatten_append,List.map_append]
    simp
  ·rintro σ H2 ⟨v4,rfl,s2,hl2⟩
   refine⟨_,rfl,?_⟩
   rw[List.length_map,Paired.len hp,List.take_of_length_le (Nat.le_refl _)]at hl2
   exact k l H2 s2 hl hl2
theorem vE {gy bf:Addr} {fz aV:FuncData} {p:Pm} (T:Txt K mg p base) (dm:Dn K mg "unit_factors" jV ["unders"] gy fz) (aJ:Dn K mg "greatest_divisor" cY LS bf aV) (ff:aI P w K mg base b8 1 bf aV LS FG):aI P w K mg base b8 2 gy fz ["unders"] (zB K):=by
 refine dm.fn.ok fk (λvs H Q E h=>?_) (λcdv A outer s H vs Q E hr h=>?_)
 ·obtain⟨l,ns,rfl,_⟩:=h
  rfl
 ·obtain⟨l,ns,rfl,hl,hn,hs,k⟩:=h
  refine⟨_,(aj (aD (i:=1) fk.nd rfl (Or.inl rfl) (eX af))
   (aj (aD (i:=2) fk.nd rfl (Or.inl rfl) ak)
   (aj (eW PassesOwn.never rfl (jn (pv 0)) (aM (i:=3) fk.nd rfl (Or.inl rfl)) (aj (aD (i:=4) fk.nd rfl (Or.inl rfl) (aE dG (pv 3) (az ff (hr.mono (by decide)) rfl aJ.m aJ.fn.kp aJ.b .nil aN (aa (pv 2) (aa (pv 3) af)))))
   (aq (bO (aR pY (pv 4) ak (aO _)) (aj (dF (mU PySem.F.plainAttrs_list PySem.F.slot_list_append PySem.F.type_list_append fu (pv 1) (aa (pv 4) af)))
   (aq (aD (i:=2) fk.nd rfl (Or.inl rfl) (aE mW (pv 2) (pv 4))))) aS))))
   (aq (aL (pv 1)))))),?_⟩
  refine⟨by show 0<=sizeLine;decide,λq hq=>?_⟩
  refine⟨_,rfl,l,rfl,⟨_,ai.seq (ai.upd hq) hl⟩,oH (K:=K) (a:=l) (xs:=ns.map V.int) (λi σ H2=>∃v3 v4,σ=[some (.ref l),some (.ref q),some (.int (oJ (ns.take i)).2),v3,v4]/\ai H H2/\H2 q=some (.lst ((oJ (ns.take i)).1.map V.int)))
   ⟨_,_,rfl,ai.upd hq,ah⟩ (λi σ H2 _ ⟨_,_,_,s2,_⟩=>ai.seq s2 hl) ?_ ?_⟩
  ·rintro i x σ H2 hx ⟨v3,v4,rfl,s2,hq2⟩
   obtain⟨b,eb,rfl⟩:=kL hx
   have hi:i<ns.length:=(List.getElem?_eq_some_iff.mp eb).1
   have hb:=hs b (List.mem_of_getElem? eb)
   have F:=uM hs i (Nat.le_of_lt hi)
   have es:oJ (ns.take (i+1))=qN (oJ (ns.take i)) b:=by rw[take_snoc eb,xX]
   have fl:=F.len
   rw[List.length_take]at fl
   rw[es]
   unfold qN
   generalize hp:oJ (ns.take i)=pr at *
   obtain⟨fs,u⟩:=pr
   obtain⟨b1,b2⟩:=hb
   have g1:=o5 u b1
   have g2:=ES u b1
   obtain⟨d1,d2⟩:=Gk (u:=u) ⟨b1,b2⟩
   refine⟨_,rfl,_,rfl,_,rfl,u,b,rfl,Int.le_of_lt b1,_,_,rfl,rfl,⟨g1,by omega⟩,_,rfl,_,_,rfl,rfl,_,rfl,?_⟩
   refine cD (λh1=>?_) (λh1=>?_)
   ·rw[if_pos h1]
    refine⟨_,rfl,.inl ⟨rfl,_,bI.of hq2⟩,_,rfl,q,_,_,rfl,rfl,hq2,?_,?_⟩
    ·rw[List.length_map]
     exact Nat.lt_of_le_of_lt (show fs.length<=1000 by dsimp only at fl;omega) (by decide)
    refine⟨_,rfl,_,rfl,_,_,rfl,rfl,.inr ⟨by omega,by omega⟩,?_⟩
    exact⟨_,_,rfl,ai.at s2 hq,by rw[ah,List.map_append];rfl⟩
   ·rw[if_neg h1]
    exact⟨_,_,rfl,s2,hq2⟩
  ·rintro σ H2 ⟨v3,v4,rfl,s2,hq2⟩
   refine⟨_,rfl,?_⟩
   rw[List.length_map,List.take_of_length_le (Nat.le_refl _)]at hq2
   exact k q H2 s2 hq hq2
theorem yy {iY:Addr} {gW:FuncData} {p:Pm} (T:Txt K mg p base) (fQ:Dn K mg "product_of" lZ ["factors"] iY gW)  :aI P w K mg base b8 1 iY gW ["factors"] (IF K):=by
 refine fQ.fn.ok kZ (λvs H Q E h=>?_) (λcdv A outer s H vs Q E hr h=>?_)
 ·obtain⟨l,fs,rfl,_⟩:=h
  rfl
 ·obtain⟨l,fs,rfl,hl,hs,k⟩:=h
  refine⟨_,(aj (aD (i:=1) kZ.nd rfl (Or.inl rfl) ak)
   (aj (eW PassesOwn.never rfl (jn (pv 0)) (aM (i:=2) kZ.nd rfl (Or.inl rfl)) (aq (aD (i:=1) kZ.nd rfl (Or.inl rfl) (aE mW (pv 1) (pv 2)))))
   (aq (aL (pv 1))))),?_⟩
  refine⟨_,rfl,l,rfl,⟨_,hl⟩,oH (K:=K) (a:=l) (xs:=fs.map V.int) (λi σ H2=>H2=H/\∃v2,σ=[some (.ref l),some (.int (qW (fs.take i))),v2])
   ⟨rfl,_,rfl⟩ (λi σ H2 _ ⟨e,_⟩=>by subst e;exact hl) ?_ ?_⟩
  ·rintro i x σ H2 hx ⟨rfl,v2,rfl⟩
   obtain⟨b,eb,rfl⟩:=kL hx
   obtain⟨b1,b2⟩:=hs b (List.mem_of_getElem? eb)
   refine⟨_,rfl,_,rfl,_,_,rfl,rfl,.inr ⟨by omega,by omega⟩,rfl,some (.int b),?_⟩
   rw[take_snoc eb,rO]
   rfl
  ·rintro σ H2 ⟨rfl,v2,rfl⟩
   refine⟨_,rfl,?_⟩
   rw[List.length_map,List.take_of_length_le (Nat.le_refl _)]
   exact k
theorem Ew {i7:Addr} {gO:FuncData} {p:Pm} (T:Txt K mg p base) (cR:Dn K mg "by_unit" oA PD i7 gO)  :aI P w K mg base b8 1 i7 gO PD (wR K):=by
 refine cR.fn.ok Ek (λvs H Q E h=>?_) (λcdv A outer s H vs Q E hr h=>?_)
 ·obtain⟨p,f,u,rfl,_⟩:=h
  rfl
 ·obtain⟨p,f,u,rfl,hS,⟨h1,h2⟩,b1,b2,k⟩:=h
  refine⟨_,(aq (aL (aE Lx (aW cX (pv 0) ak (λ_ _=>rfl)) (aE dG (pv 1) (aW cX (pv 0) ak (λ_ _=>rfl)))))),?_⟩
  exact⟨_,rfl,_,_,_,_,rfl,rfl,hS,rfl,_,rfl,_,rfl,_,_,_,_,rfl,rfl,hS,rfl,_,_,rfl,rfl,⟨by omega,h2⟩,_,_,rfl,rfl,⟨b1,b2⟩,k⟩
end
section
variable{P:Program}{w:World}{K:PySem.W.Frag}{mg:Str->Option Value}{base:Heap}
theorem Eu {mL:Addr} {kQ:FuncData} {p:Pm} (T:Txt K mg p base) (jM:Dn K mg "is_sign" qH ["sign"] mL kQ)  :aI P w K mg base b8 1 mL kQ ["sign"] Cm:=by
 refine jM.fn.ok wW (λvs H Q E h=>?_) (λcdv A outer s H vs Q E hr h=>?_)
 ·obtain⟨c,rfl,_⟩:=h
  rfl
 ·obtain⟨c,rfl,k⟩:=h
  refine⟨_,(aj (aD (i:=1) wW.nd rfl (Or.inl rfl) (aC (Kr) rfl T.z_ord Qw (aa (pv 0) af)))
   (aq (aL (j4 (Je MR MR (oX (v:=.int 32) rfl T.A8 ⟨_,rfl⟩) (pv 1) (oX (v:=.int 126) rfl T.Dg ⟨_,rfl⟩)) (j3 (cC sV (pv 1) (oX (v:=.ref p.jv) rfl T.ET rfl) (by with_unfolding_all rfl))))))),?_⟩
  refine⟨_,rfl,_,rfl,rfl,?_⟩
  have k':Q (.bl ((decide ((32:Int)<=(c:Int))&&decide ((c:Int)<=126))&& !L4 (.int c) [.int 34,.int 37,.int 45])) H:=k
  refine⟨_,rfl,_,_,rfl,rfl,_,rfl,?_⟩
  refine cD (λh1=>?_) (λh1=>?_)
  ·refine⟨_,_,rfl,rfl,_,rfl,?_⟩
   have pL:(32:Int)<=(c:Int):=h1
   rw[decide_eq_true pL,Bool.true_and]at k'
   refine cD (λh2=>?_) (λh2=>?_)
   ·have h2':(c:Int)<=126:=h2
    rw[decide_eq_true h2',Bool.true_and]at k'
    exact⟨_,rfl,_,_,rfl,.inr (T.En _),rfl,rfl,k'⟩
   ·have h2':¬(c:Int)<=126:=h2
    rw[decide_eq_false h2',Bool.false_and]at k'
    exact k'
  ·have pL:¬(32:Int)<=(c:Int):=h1
   rw[decide_eq_false pL,Bool.false_and,Bool.false_and]at k'
   exact⟨_,rfl,jr k'⟩
theorem AS {jJ mL:Addr} {iV kQ:FuncData} {p:Pm} (T:Txt K mg p base) (gK:Dn K mg "are_signs" nK ["text"] jJ iV) (jM:Dn K mg "is_sign" qH ["sign"] mL kQ) (HP:aI P w K mg base b8 1 mL kQ ["sign"] Cm):aI P w K mg base b8 2 jJ iV ["text"] wU:=by
 refine gK.fn.ok Au (λvs H Q E h=>?_) (λcdv A outer s H vs Q E hr h=>?_)
 ·obtain⟨x,rfl,_⟩:=h
  rfl
 ·obtain⟨x,rfl,hx,k⟩:=h
  refine⟨_,(aq (aL (aC (vo rfl) rfl T.MC Ky (aa (nM (N:=["sign"]) rfl (λ_=>⟨[],cG.plain (by decide +kernel) rfl (by decide +kernel) (by decide +kernel)⟩) (Ja (pv 0)) (λ_ _ _ _ _ _ _=>(aM (i:=0) (show(["sign"]:List Str).Nodup by decide +kernel) rfl (Or.inl rfl))) (λ_ _ _ _ _ _ _=>(az HP (hr.mono (by decide)) rfl jM.m jM.fn.kp jM.b .nil aN (aa (pv 0) af)))) af)))),?_⟩
  refine⟨_,rfl,x,rfl,λl hl=>?_⟩
  refine⟨λi m ys H2=>m=x.cps.size-i/\i<=x.cps.size/\ai H H2/\H2 l=some (.lst ys)/\ys=((x.cps.toList.take i).map o4).map V.bl,⟨x.cps.size,rfl,Nat.zero_le _,ai.upd hl,ah,rfl⟩,?_⟩
  rintro i m ys H2 ⟨rfl,hi,s2,hl2,rfl⟩
  by_cases hlt:i<x.cps.size
  ·refine .inr ⟨hlt,?_⟩
   rintro y H3 ⟨rfl,c,ec,rfl⟩
   refine⟨Kp.rep _ _,?_⟩
   refine⟨_,rfl,c,rfl,?_⟩
   refine⟨hl2,?_,x.cps.size-(i+1),by omega,rfl,hlt,ai.at s2 hl,ah,?_⟩
   ·rw[List.length_map,List.length_map,List.length_take]
    exact Nat.lt_of_le_of_lt (show min i x.cps.toList.length<=1000 by omega) (by decide)
   ·rw[take_snoc (x:=c) (by rw[Array.getElem?_toList];exact ec),List.map_append,List.map_append]
    rfl
  ·have ei:i=x.cps.size:=by omega
   subst ei
   refine .inl ⟨Nat.le_refl _,?_⟩
   rw[List.take_of_length_le (by rw[Array.length_toList];exact Nat.le_refl _)]at hl2
   refine⟨l,_,rfl,bI.of hl2,?_⟩
   have e:(x.cps.toList.map o4).all id=x.cps.toList.all o4:=by rw[List.all_map];rfl
   rw[e]
   exact k H2 s2
theorem xA {iu jJ:Addr} {gw iV:FuncData} {p:Pm} (T:Txt K mg p base) (eG:Dn K mg "check_signs" lA ["signs"] iu gw) (gK:Dn K mg "are_signs" nK ["text"] jJ iV) (DS:aI P w K mg base b8 2 jJ iV ["text"] wU):aI P w K mg base b8 3 iu gw ["signs"] sM:=by
 refine eG.fn.ok wY (λvs H Q E h=>?_) (λcdv A outer s H vs Q E hr h=>?_)
 ·obtain⟨x,rfl,_⟩:=h
  rfl
 ·obtain⟨x,rfl,⟨h1,h2,h3,h4⟩,k⟩:=h
  refine⟨_,(aj (bO (aR cH (aC (bz) rfl T.eV ck (aa (pv 0) af)) ak (aO _)) fq aS)
   (aj (bO (w9 (iG (az DS (hr.mono (by decide)) rfl gK.m gK.fn.kp gK.b .nil aN (aa (pv 0) af)))) fq aS)
   (aq (bO (aR xj (aC (yQ) rfl T.eV ck (aa (kI (HA rfl) rfl T.Q5 Qv (aa (pv 0) af)) af)) (aC (bz) rfl T.eV ck (aa (pv 0) af)) (aO _)) fq aS)))),?_⟩
  have hz:x.length<=sizeLine:=Nat.le_trans h2 (by decide)
  refine⟨_,rfl,_,_,rfl,⟨hz,rfl⟩,rfl,_,rfl,?_⟩
  refine n8 (λz=>absurd z (by show ¬((x.cps.size:Nat):Int)=0;omega)) λ_=>?_
  refine⟨_,rfl,x,rfl,Nat.le_trans h2 (by decide),λH2 s2=>?_⟩
  refine⟨_,rfl,?_⟩
  rw[List.all_eq_true.mpr h3]
  refine vf ?_
  refine⟨_,rfl,x,rfl,Nat.lt_of_le_of_lt (Nat.succ_le_succ h2) (by decide),λp hp=>?_⟩
  refine⟨p,_,rfl,ah,_,rfl,_,_,rfl,⟨hz,rfl⟩,rfl,_,rfl,?_⟩
  refine xO (λz=>absurd (by rw[G5 h4];rfl) z) λ_=>?_
  exact k _ (s2.trans (ai.upd hp))
theorem uA {fG:Addr} {eO:FuncData} {p:Pm} (T:Txt K mg p base) (cV:Dn K mg "check_lengths" jm Sk fG eO)  :aI P w K mg base b8 1 fG eO Sk (pQ K):=by
 refine cV.fn.ok ow (λvs H Q E h=>?_) (λcdv A outer s H vs Q E hr h=>?_)
 ·obtain⟨x,c,rows,rfl,_⟩:=h
  rfl
 ·obtain⟨x,c,rows,rfl,⟨nc,cs,Zp,hc,hp⟩,hx,⟨hq1,hq2⟩,k⟩:=h
  refine⟨_,(aj (bO (aR xj (aC (bz) rfl T.eV ck (aa (pv 1) af)) (aC (bz) rfl T.eV ck (aa (pv 0) af)) (aO _)) fq aS)
   (aq (eW PassesOwn.never rfl (Cz (pv 1)) (aM (i:=2) ow.nd rfl (Or.inl rfl)) (aq (bO (aR xj (aC (bz) rfl T.eV ck (aa (pv 2) af)) (aC (bz) rfl T.eV ck (aa (pv 0) af)) (aO _)) fq aS))))),?_⟩
  have hz:x.length<=sizeLine:=Nat.le_trans hx (by decide)
  have hl:(cs.map Cp.val).length=x.cps.size:=by rw[List.length_map,Paired.len hp,hq1]
  refine⟨_,rfl,_,_,rfl,Km hc nc,_,rfl,_,_,rfl,⟨hz,rfl⟩,rfl,_,rfl,?_⟩
  refine xO (λz=>absurd (by rw[hl];rfl) z) λ_=>?_
  refine⟨_,rfl,c,_,rfl,hc,JX (K:=K) (c:=c) (xs:=cs.map Cp.val) (λi σ H2=>H2=H/\∃v,σ=[some (.str x),some c.val,v]) ⟨rfl,_,rfl⟩ (λi σ H2 _ ⟨e,_⟩=>by subst e;exact hc) ?_ ?_⟩
  ·rintro i y σ H2 hy ⟨rfl,v,rfl⟩
   obtain⟨d,ed,rfl⟩:∃d,cs[i]? =some d/\y=d.val:=by
    rw[List.getElem?_map]at hy
    cases e:cs[i]? with
    |none=>rw[e]at hy;cases hy
    |some d=>rw[e]at hy;exact⟨d,rfl,(Option.some.inj hy).symm⟩
   obtain⟨row,er,hr2⟩:=Paired.at hp ed
   refine⟨_,rfl,_,_,rfl,hr2.len (Zp d (List.mem_of_getElem? ed)),_,rfl,_,_,rfl,⟨hz,rfl⟩,rfl,_,rfl,?_⟩
   refine xO (λz=>absurd (by rw[hq2 row (List.mem_of_getElem? er)];rfl) z) λ_=>?_
   exact⟨rfl,_,rfl⟩
  ·rintro σ H2 ⟨rfl,v,rfl⟩
   exact k
end
section
variable{P:Program}{w:World}{K:PySem.W.Frag}{mg:Str->Option Value}{base:Heap}
theorem sW {eT i7:Addr} {dH gO:FuncData} {p:Pm} (T:Txt K mg p base) (cB:Dn K mg "costs_by_signs" iM Sj eT dH) (cR:Dn K mg "by_unit" oA PD i7 gO) (qP:aI P w K mg base b8 1 i7 gO PD (wR K)):aI P w K mg base b8 2 eT dH Sj (FJ K):=by
 refine cB.fn.ok dD (λvs H Q E h=>?_) (λcdv A outer s H vs Q E hr h=>?_)
 ·obtain⟨x,Pp,u,rows,rfl,_⟩:=h
  rfl
 ·obtain⟨x,Pp,u,rows,rfl,hM,hx,nd,⟨hq1,hq2⟩,ho,k⟩:=h
  refine⟨_,(aj (aD (i:=3) dD.nd rfl (Or.inl rfl) CC)
   (aj (eW PassesOwn.never rfl (Az rfl rfl T.Fl (aa (pv 0) (aa (pv 1) af))) (pX (n:=2) rfl (bS (aM (i:=4) dD.nd rfl (Or.inl rfl)) (bS (aM (i:=5) dD.nd rfl (Or.inl rfl)) lD))) (aq (eW PassesOwn.never rfl (Az rfl rfl T.Fl (aa (pv 0) (aa (pv 5) af))) (pX (n:=2) rfl (bS (aM (i:=6) dD.nd rfl (Or.inl rfl)) (bS (aM (i:=7) dD.nd rfl (Or.inl rfl)) lD))) (aq (FT (Dd hr) (pv 3) (bG (aa (pv 4) (aa (pv 6) af))) (az qP (hr.mono (by decide)) rfl cR.m cR.fn.kp cR.b .nil aN (aa (pv 7) (aa (pv 2) af))) rfl)))))
   (aq (aL (pv 3))))),?_⟩
  intro d hd
  obtain⟨qs,ZF,hp⟩:=hM
  have hlen:qs.length=x.cps.size:=by rw[Paired.len hp,hq1]
  have hmin:min (fj x).length (qs.map V.ref).length=x.cps.size:=by rw[signs_length,List.length_map,hlen,Nat.min_self]
  refine⟨_,rfl,_,rfl,.txt x,.tup Pp,_,_,rfl,rfl,Dat.tup (Dat.of (ai.upd hd)) ZF,Gi (K:=K) (c:=.txt x) (d:=.tup Pp) (xs:=fj x) (ys:=qs.map V.ref) (λi σ H2=>∃kvs v4 v5 v6 v7,σ=[some (.str x),some (.ref Pp),some (.int u),some (.ref d),v4,v5,v6,v7]/\ai H H2/\H2 d=some (.dT kvs)/\kvs.length<=i*x.cps.size/\kW kvs x rows u i 0)
   ⟨[],_,_,_,_,rfl,ai.upd hd,ah,Nat.zero_le _,kW.nil x rows u⟩ (λi σ H2 _ ⟨kvs,v4,v5,v6,v7,_,s2,_⟩=>⟨rfl,Dat.tup (Dat.of s2) ZF⟩) ?_ ?_⟩
  ·rintro i y z p1 σ H2 hy hz hp1 ⟨kvs,v4,v5,v6,v7,rfl,s2,hd2,hk,hc⟩
   obtain⟨a,ha,rfl⟩:=signs_get hy
   obtain⟨q,hq,rfl⟩:=kL hz
   obtain⟨row,er,PV⟩:=Paired.at hp hq
   have hi:i<x.cps.size:=by rw[←hlen];exact(List.getElem?_eq_some_iff.mp hq).1
   obtain⟨ps,hps,hpp⟩:=PV
   have hpl:ps.length=x.cps.size:=by rw[Paired.len hpp,hq2 row (List.mem_of_getElem? er)]
   have SS:min (fj x).length (ps.map V.ref).length=x.cps.size:=by rw[signs_length,List.length_map,hpl,Nat.min_self]
   refine⟨p1,_,rfl,dR.of ah,rfl,_,_,rfl,_,_,rfl,rfl,?_⟩
   have Ph:d≠p1:=aP hd2 hp1
   refine⟨_,rfl,_,rfl,.txt x,.tup q,_,_,rfl,rfl,Dat.tup (Dat.of (s2.trans (ai.upd hp1))) hps,Gi (K:=K) (c:=.txt x) (d:=.tup q) (xs:=fj x) (ys:=ps.map V.ref)
    (λj σ H3=>∃kvs v6 v7,σ=[some (.str x),some (.ref Pp),some (.int u),some (.ref d),some (.str ⟨#[a]⟩),some (.ref q),v6,v7]/\ai H H3/\H3 d=some (.dT kvs)/\kvs.length<=i*x.cps.size+j/\kW kvs x rows u i j)
    ⟨kvs,v6,v7,rfl,s2.trans (ai.upd hp1),by rw[ao Ph];exact hd2,hk,hc⟩ (λj σ H3 _ ⟨kvs,v6,v7,_,s3,_⟩=>⟨rfl,Dat.tup (Dat.of s3) hps⟩) ?_ ?_⟩
   ·rintro j y z p2 σ H3 hy hz hp2 ⟨kvs,v6,v7,rfl,s3,Me,hk,hc⟩
    obtain⟨b,hb,rfl⟩:=signs_get hy
    obtain⟨pr,ZJ,rfl⟩:=kL hz
    obtain⟨f,ef,hf⟩:=Paired.at hpp ZJ
    have hj:j<x.cps.size:=by rw[←hpl];exact(List.getElem?_eq_some_iff.mp ZJ).1
    obtain⟨o1,o2,o3⟩:=ho row (List.mem_of_getElem? er) f (List.mem_of_getElem? ef)
    refine⟨p2,_,rfl,dR.of ah,rfl,_,_,rfl,_,_,rfl,rfl,?_⟩
    have s4:=s3.trans (ai.upd (o:=.tup [.str ⟨#[b]⟩,.ref pr]) hp2)
    have HY:upd H3 p2 (.tup [.str ⟨#[b]⟩,.ref pr]) d=some (.dT kvs):=by rw[ao (aP Me hp2)];exact Me
    refine⟨_,rfl,_,rfl,pr,f,u,rfl,hf.same s4,o1,o2.bg,o3.bg,?_⟩
    refine⟨_,rfl,_,rfl,_,rfl,by show 2<=sizeLine;decide,λt ht=>?_⟩
    have X8:upd (upd H3 p2 (.tup [.str ⟨#[b]⟩,.ref pr])) t (.tup [.str ⟨#[a]⟩,.str ⟨#[b]⟩]) d=some (.dT kvs):=by rw[ao (aP HY ht)];exact HY
    have hsz:kvs.length<sizeLine:=by
     have:i*x.cps.size<=100*100:=Nat.mul_le_mul (by omega) hx
     have:kvs.length<20000:=by omega
     exact Nat.lt_of_lt_of_le this (by decide)
    refine⟨d,_,rfl,HQ.t (k:=keyOf a b) X8 ah hsz,?_⟩
    refine⟨putK kvs (keyOf a b) (.int (f.1*(u / f.2))),_,_,rfl,ai.at (s4.trans (ai.upd ht)) hd,ah,?_,hc.put nd ha hb ⟨row,er,ef⟩⟩
    have:=nO kvs (keyOf a b) (.int (f.1*(u / f.2)))
    omega
   ·rintro σ H3 ⟨kvs,v6,v7,rfl,s3,Me,hk,hc⟩
    rw[SS]at hk hc
    refine⟨kvs,_,_,_,_,rfl,s3,Me,?_,hc.row (Nat.le_refl _)⟩
    rw[Nat.succ_mul]
    exact hk
  ·rintro σ H2 ⟨kvs,v4,v5,v6,v7,rfl,s2,hd2,hk,hc⟩
   rw[hmin]at hc
   exact⟨_,rfl,k d H2 kvs s2 hd hd2 (hc.all (Nat.le_refl _))⟩
theorem AI {fN:Addr} {dW:FuncData} {p:Pm} (T:Txt K mg p base) (cA:Dn K mg "pair_cost" lJ PC fN dW)  :aI P w K mg base b8 1 fN dW PC (rK K p.au):=by
 refine cA.fn.ok Ao (λvs H Q E h=>?_) (λcdv A outer s H vs Q E hr h=>?_)
 ·obtain⟨x,sg,rows,fo,fm,i,j,a,b,f,rfl,_⟩:=h
  rfl
 ·obtain⟨x,sg,rows,fo,fm,i,j,a,b,f,rfl,⟨_,_,_,_,_,_,_,dx,Pp,o,m,d,kvs,h1,h2,h3,h4,h5,h6⟩,ha,hb,hf,k⟩:=h
  refine⟨_,(aq (aL (AF (Dd hr) (cW (pv 0) rfl) (bG (aa (pv 1) (aa (pv 2) af))) (λ_ _=>rfl)))),?_⟩
  refine⟨_,rfl,x,_,_,_,_,rfl,h1,T.bq,T.qa,EW,?_⟩
  refine⟨_,rfl,_,rfl,by show 2<=sizeLine;decide,λt ht=>?_⟩
  have X8:upd H t (.tup [.str ⟨#[a]⟩,.str ⟨#[b]⟩]) d.1=some (.dT kvs):=by rw[ao (aP h5 ht)];exact h5
  have z:=DV.t (k:=keyOf a b) X8 ah
  rw[h6.1 i j a b f ha hb hf]at z
  exact⟨d.1,_,rfl,z,k _ (ai.upd ht)⟩
theorem vG {cN:Addr} {b9:FuncData} {p:Pm} (T:Txt K mg p base) (bE:Dn K mg "opening_cost" iE l5 cN b9)  :aI P w K mg base b8 2 cN b9 l5 (uq K p.au):=by
 refine bE.fn.ok vB (λvs H Q E h=>?_) (λcdv A outer s H vs Q E hr h=>?_)
 ·obtain⟨x,sg,rows,fo,fm,rfl,_⟩:=h
  rfl
 ·obtain⟨x,sg,rows,fo,fm,rfl,⟨_,_,_,_,_,_,_,dx,Pp,o,m,d,kvs,h1,h2,h3,h4,h5,h6⟩,k⟩:=h
  refine⟨_,(aq (aL (cW (pv 0) rfl))),?_⟩
  exact⟨_,rfl,x,_,_,_,_,rfl,h1,T.bq,T.j6,sr,k⟩
theorem AJ {fO:Addr} {dX:FuncData} {p:Pm} (T:Txt K mg p base) (bA:Dn K mg "more_cost" lK l5 fO dX)  :aI P w K mg base b8 2 fO dX l5 (Ef K p.au):=by
 refine bA.fn.ok Aq (λvs H Q E h=>?_) (λcdv A outer s H vs Q E hr h=>?_)
 ·obtain⟨x,sg,rows,fo,fm,rfl,_⟩:=h
  rfl
 ·obtain⟨x,sg,rows,fo,fm,rfl,⟨_,_,_,_,_,_,_,dx,Pp,o,m,d,kvs,h1,h2,h3,h4,h5,h6⟩,k⟩:=h
  refine⟨_,(aq (aL (cW (pv 0) rfl))),?_⟩
  exact⟨_,rfl,x,_,_,_,_,rfl,h1,T.bq,T.lT,vR,k⟩
theorem CJ {gP bf:Addr} {fL aV:FuncData} {p:Pm} (T:Txt K mg p base) (c5:Dn K mg "in_units" mS PB gP fL) (aJ:Dn K mg "greatest_divisor" cY LS bf aV) (ff:aI P w K mg base b8 1 bf aV LS FG):aI P w K mg base b8 2 gP fL PB (ur K p.au):=by
 refine c5.fn.ok iC (λvs H Q E h=>?_) (λcdv A outer s H vs Q E hr h=>?_)
 ·obtain⟨x,n,sg,rows,fo,fm,rfl,_⟩:=h
  rfl
 ·obtain⟨x,n,sg,rows,fo,fm,rfl,⟨_,_,_,_,_,u1,u2,dx,Pp,o,m,d,kvs,h1,h2,h3,h4,h5,h6,fs,h7,h8,h9⟩,k⟩:=h
  refine⟨_,(aj (aD (i:=2) iC.nd rfl (Or.inl rfl) (pv 1))
   (aj (aD (i:=3) iC.nd rfl (Or.inl rfl) ak)
   (aj (eW PassesOwn.never rfl (jn (cW (pv 0) rfl)) (aM (i:=4) iC.nd rfl (Or.inl rfl)) (aj (aD (i:=5) iC.nd rfl (Or.inl rfl) (az ff (hr.mono (by decide)) rfl aJ.m aJ.fn.kp aJ.b .nil aN (aa (pv 2) (aa (pv 4) af))))
   (aj (aD (i:=2) iC.nd rfl (Or.inl rfl) (aE dG (pv 2) (pv 5)))
   (aq (aD (i:=3) iC.nd rfl (Or.inl rfl) (aE mW (pv 3) (aE dG (pv 4) (pv 5))))))))
   (aq (aL (bG (aa (pv 2) (aa (pv 3) af)))))))),?_⟩
  refine⟨_,rfl,_,rfl,x,_,_,_,_,rfl,h1,T.bq,T.kK,o8,d.2,rfl,⟨_,bI.of h9⟩,oH (K:=K) (a:=d.2) (xs:=fs.map V.int) (λi σ H2=>H2=H/\∃(ov un:Int) (v4 v5:Option V),σ=[some (.ref x),some (.int n),some (.int ov),some (.int un),v4,v5]/\0<un/\Int.gcd ov un=1/\ov*qW (fs.take i)=n*un)
   ⟨rfl,n,1,_,_,rfl,by decide,Int.gcd_one_right n,by show n*qW []=n*1;rfl⟩ (λi σ H2 _ ⟨e,_⟩=>by subst e;exact bI.of h9) ?_ ?_⟩
  ·rintro i y σ H2 hy ⟨rfl,ov,un,v4,v5,rfl,hun,hg,he⟩
   obtain⟨b,eb,rfl⟩:=kL hy
   obtain⟨b1,b2⟩:=h7 b (List.mem_of_getElem? eb)
   have g1:=o5 ov b1
   have g2:=ES ov b1
   have d1:0<b / (Int.gcd ov b:Int):=Int.ediv_pos_of_pos_of_dvd b1 (Int.le_of_lt g1) (Int.gcd_dvd_right ov b)
   have d2:b / (Int.gcd ov b:Int)<=b:=Int.ediv_le_self _ (Int.le_of_lt b1)
   refine⟨_,rfl,_,rfl,ov,b,rfl,Int.le_of_lt b1,_,rfl,_,rfl,_,_,rfl,rfl,⟨g1,by omega⟩,_,rfl,_,rfl,_,rfl,_,_,rfl,rfl,⟨g1,by omega⟩,_,_,rfl,rfl,.inr ⟨by omega,by omega⟩,?_⟩
   refine⟨rfl,_,_,_,_,rfl,Int.mul_pos hun d1,Kn b1 hg,?_⟩
   rw[take_snoc eb,rO]
   exact E2 he
  ·rintro σ H2 ⟨rfl,ov,un,v4,v5,rfl,hun,hg,he⟩
   rw[List.length_map,List.take_of_length_le (Nat.le_refl _),h8]at he
   have el:=RU u1 hun hg he
   refine⟨_,rfl,_,rfl,by show 2<=sizeLine;decide,λq hq=>k q _ (ai.upd hq) hq ?_⟩
   rw[ah,el]
end
section
variable{P:Program}{w:World}{K:PySem.W.Frag}{mg:Str->Option Value}{base:Heap}
theorem rR {bw iu fG fE cO i9 gy iY eT i7:Addr} {eZ gw eO eL cg g7 fz gW dH gO:FuncData} {p:Pm} (T:Txt K mg p base) (dI:Dm K "__init__" "Prices.__init__" bT QM bw eZ) (eG:Dn K mg "check_signs" lA ["signs"] iu gw) (zh:aI P w K mg base b8 3 iu gw ["signs"] sM) (cV:Dn K mg "check_lengths" jm Sk fG eO) (wc:aI P w K mg base b8 1 fG eO Sk (pQ K)) (cT:Dn K mg "lowest_prices" jk ["row"] fE eL) (vY:aI P w K mg base b8 4 fE eL ["row"] (uV K)) (bh:Dn K mg "lowest_price" iF JD cO cg) (kj:aI P w K mg base b8 3 cO cg JD (rL K)) (fU:Dn K mg "all_unders" mz Sl i9 g7) (BL:aI P w K mg base b8 1 i9 g7 Sl (Cd K)) (dm:Dn K mg "unit_factors" jV ["unders"] gy fz) (yi:aI P w K mg base b8 2 gy fz ["unders"] (zB K)) (fQ:Dn K mg "product_of" lZ ["factors"] iY gW) (BH:aI P w K mg base b8 1 iY gW ["factors"] (IF K)) (cB:Dn K mg "costs_by_signs" iM Sj eT dH) (uR:aI P w K mg base b8 2 eT dH Sj (FJ K)) (cR:Dn K mg "by_unit" oA PD i7 gO) (qP:aI P w K mg base b8 1 i7 gO PD (wR K)):aI P w K mg base b8 5 bw eZ QM (IL K p.au):=by
 refine dI.fn.ok rM (λvs H Q E h=>?_) (λcdv A outer s H vs Q E hr h=>?_)
 ·obtain⟨x,dx,o,m,sg,c,rows,fo,fm,rfl,_⟩:=h
  rfl
 ·obtain⟨x,dx,o,m,sg,c,rows,fo,fm,rfl,hx,hS,h12,hM,Ut,hok,hfo,Jh,hfm,Ji,k⟩:=h
  have S:=hS
  obtain⟨q1,q2,q3,q4⟩:=S
  refine⟨_,(aj (dF (az zh (hr.mono (by decide)) rfl eG.m eG.fn.kp eG.b .nil aN (aa (pv 1) af)))
   (aj (dF (az wc (hr.mono (by decide)) rfl cV.m cV.fn.kp cV.b .nil aN (aa (pv 1) (aa (pv 2) af))))
   (aj (lR (pv 0) (pv 1) rfl)
   (aj (lR (pv 0) (kI (rz) rfl T.qB oN (aa (nM (N:=["row"]) rfl (λ_=>⟨[],cG.plain (by decide +kernel) rfl (by decide +kernel) (by decide +kernel)⟩) (Cz (pv 2)) (λ_ _ _ _ _ _ _=>(aM (i:=0) (show(["row"]:List Str).Nodup by decide +kernel) rfl (Or.inl rfl))) (λ_ _ _ _ _ _ _=>(az vY (hr.mono (by decide)) rfl cT.m cT.fn.kp cT.b .nil aN (aa (pv 0) af)))) af)) rfl)
   (aj (lR (pv 0) (az kj (hr.mono (by decide)) rfl bh.m bh.fn.kp bh.b .nil aN (aa (pv 3) af)) rfl)
   (aj (lR (pv 0) (az kj (hr.mono (by decide)) rfl bh.m bh.fn.kp bh.b .nil aN (aa (pv 4) af)) rfl)
   (aj (lR (pv 0) (az yi (hr.mono (by decide)) rfl dm.m dm.fn.kp dm.b .nil aN (aa (az BL (hr.mono (by decide)) rfl fU.m fU.fn.kp fU.b .nil aN (aa (cW (pv 0) rfl) (aa (cW (pv 0) rfl) (aa (cW (pv 0) rfl) af)))) af)) rfl)
   (aj (lR (pv 0) (az BH (hr.mono (by decide)) rfl fQ.m fQ.fn.kp fQ.b .nil aN (aa (cW (pv 0) rfl) af)) rfl)
   (aj (lR (pv 0) (az uR (hr.mono (by decide)) rfl cB.m cB.fn.kp cB.b .nil aN (aa (cW (pv 0) rfl) (aa (cW (pv 0) rfl) (aa (cW (pv 0) rfl) af)))) rfl)
   (aj (lR (pv 0) (az qP (hr.mono (by decide)) rfl cR.m cR.fn.kp cR.b .nil aN (aa (cW (pv 0) rfl) (aa (cW (pv 0) rfl) af))) rfl)
   (aq (lR (pv 0) (az qP (hr.mono (by decide)) rfl cR.m cR.fn.kp cR.b .nil aN (aa (cW (pv 0) rfl) (aa (cW (pv 0) rfl) af))) rfl)))))))))))),?_⟩
  refine⟨_,rfl,sg,rfl,hS,λH1 s1=>?_⟩
  refine⟨_,rfl,_,rfl,sg,c,rows,rfl,hM.dat (Dat.of s1),by omega,Ut,?_⟩
  have QT:H1 x=some (.ins p.au dx []):=s1 _ _ hx
  refine⟨_,rfl,_,rfl,x,_,dx,_,rfl,QT,T.bq,T.gj,by decide,?_⟩
  generalize UG:upd H1 x (.ins p.au dx (aF "signs" (.str sg) []))=H2
  have hx2:H2 x=some (.ins p.au dx (aF "signs" (.str sg) [])):=by rw[←UG];exact ah
  have f2:Off x H H2:=by rw[←UG];exact(Off.of s1).trans Off.set
  obtain⟨nc,cs,Zp,hcs,hp⟩:=hM.dat (f2.dat hx)
  refine⟨_,rfl,c,_,rfl,hcs,λl SY=>?_⟩
  refine⟨λi n ys H3=>n=rows.length-i/\i<=rows.length/\ai H2 H3/\H3 l=some (.lst ys)/\∃qs:List Addr,ys=qs.map V.ref/\qs.length=i/\Paired (λq r=>ki K H3 (.tup q) r) qs ((yK rows).take i),⟨rows.length,rfl,Nat.zero_le _,ai.upd SY,ah,[],rfl,rfl,.nil⟩,?_⟩
  rintro i n ys H3 ⟨rfl,hi,s3,hl3,qs,rfl,hq,hP⟩
  have zc:c.at K H3 (cs.map Cp.val):=ai.cp s3 hcs
  have hcl:=Paired.len hp
  by_cases hlt:i<rows.length
  ·have ZS:i<cs.length:=by omega
   have e1:(cs.map Cp.val)[i]? =some cs[i].val:=by rw[List.getElem?_map,List.getElem?_eq_getElem ZS];rfl
   refine .inr ⟨⟨_,_,zc,e1⟩,?_⟩
   rintro y H4 ⟨rfl,hy⟩
   have ey:=hy _ zc
   rw[e1]at ey
   cases ey
   obtain⟨r,er,hr2⟩:=Paired.at hp (List.getElem?_eq_getElem ZS)
   have hrm:=List.mem_of_getElem? er
   refine⟨Kp.rep _ _,?_⟩
   refine⟨_,rfl,cs[i],r,rfl,hr2.same s3,λf hf=>(hok r hrm f hf).1,by rw[Ut.2 r hrm];omega,λq H5 s5 hqn hR=>?_⟩
   have XU:H5 l=some (.lst (qs.map V.ref)):=s5 _ _ hl3
   refine⟨XU,?_,rows.length-(i+1),by omega,rfl,hlt,ai.at (s3.trans s5) SY,ah,qs++[q],by rw[List.map_append];rfl,by rw[List.length_append,hq];rfl,?_⟩
   ·rw[List.length_map,hq]
    have:i<100:=by rw[Ut.1]at hlt;omega
    exact Nat.lt_of_lt_of_le this (by decide)
   ·rw[show(yK rows).take (i+1)=(yK rows).take i++[r.map kD] from qZ er]
    refine GP.Paired.snoc (Paired.dP hP λa b z=>?_) ?_
    ·exact(z.same s5).off XU
    ·exact hR.off XU
  ·have ei:i=rows.length:=by omega
   subst ei
   refine .inl ⟨⟨_,zc,by rw[List.length_map];omega⟩,?_⟩
   refine⟨l,_,rfl,.inl ⟨bI.of hl3,λPp ZX=>?_⟩⟩
   generalize Z4:upd H3 Pp (.tup (qs.map V.ref))=H4
   have s4:ai H2 H4:=by rw[←Z4];exact s3.trans (ai.upd ZX)
   have m4:Bv K H4 Pp (yK rows):=by
    rw[←Z4]
    refine⟨qs,dR.of ah,?_⟩
    rw[List.take_of_length_le (by unfold yK;rw[List.length_map];exact Nat.le_refl _)]at hP
    exact Paired.dP hP λa b z=>z.same (ai.upd ZX)
   have SE:=s4 _ _ hx2
   refine⟨_,rfl,x,_,dx,_,rfl,SE,T.bq,T.mY,Zf,?_⟩
   generalize Yq:upd H4 x (.ins p.au dx (aF "pairs" (.ref Pp) (aF "signs" (.str sg) [])))=H5
   have Xp:H5 x=some (.ins p.au dx (aF "pairs" (.ref Pp) (aF "signs" (.str sg) []))):=by rw[←Yq];exact ah
   have f5:Off x H H5:=by rw[←Yq];exact(f2.trans (Off.of s4)).trans Off.set
   have d5:Dat H4 H5:=by rw[←Yq];exact Dat.set SE
   refine⟨_,rfl,o,fo,rfl,hfo.dat (f5.dat hx),Jh.1,λo' ho'=>?_⟩
   generalize Z3:upd H5 o' (.tup [.int (kD fo).1,.int (kD fo).2])=H6
   have s6:ai H5 H6:=by rw[←Z3];exact ai.upd ho'
   have ho6:kB K H6 o' (kD fo):=by rw[←Z3];exact dR.of ah
   have M0:=s6 _ _ Xp
   refine⟨_,rfl,x,_,dx,_,rfl,M0,T.bq,T.kJ,pl2,?_⟩
   generalize Yp:upd H6 x (.ins p.au dx (aF "opening" (.ref o') (aF "pairs" (.ref Pp) (aF "signs" (.str sg) []))))=H7
   have hx7:H7 x=some (.ins p.au dx (aF "opening" (.ref o') (aF "pairs" (.ref Pp) (aF "signs" (.str sg) [])))):=by rw[←Yp];exact ah
   have f7:Off x H H7:=by rw[←Yp];exact(f5.trans (Off.of s6)).trans Off.set
   have d7:Dat H6 H7:=by rw[←Yp];exact Dat.set M0
   refine⟨_,rfl,m,fm,rfl,hfm.dat (f7.dat hx),Ji.1,λm' hm'=>?_⟩
   generalize Z2:upd H7 m' (.tup [.int (kD fm).1,.int (kD fm).2])=H8
   have s8:ai H7 H8:=by rw[←Z2];exact ai.upd hm'
   have hm8:kB K H8 m' (kD fm):=by rw[←Z2];exact dR.of ah
   have ZD:=s8 _ _ hx7
   refine⟨_,rfl,x,_,dx,_,rfl,ZD,T.bq,T.nY,pl3,?_⟩
   generalize Yo:upd H8 x (.ins p.au dx (aF "more" (.ref m') (aF "opening" (.ref o') (aF "pairs" (.ref Pp) (aF "signs" (.str sg) [])))))=H9
   have SD:H9 x=some (.ins p.au dx (aF "more" (.ref m') (aF "opening" (.ref o') (aF "pairs" (.ref Pp) (aF "signs" (.str sg) []))))):=by rw[←Yo];exact ah
   have f9:Off x H H9:=by rw[←Yo];exact(f7.trans (Off.of s8)).trans Off.set
   have d9:Dat H8 H9:=by rw[←Yo];exact Dat.set ZD
   have e69:Dat H6 H9:=d7.trans ((Dat.of s8).trans d9)
   have e49:Dat H4 H9:=d5.trans ((Dat.of s6).trans e69)
   have M9:Bv K H9 Pp (yK rows):=m4.dat e49
   have O9:kB K H9 o' (kD fo):=ho6.dat e69
   have m9:kB K H9 m' (kD fm):=hm8.dat d9
   have RL:∀r∈yK rows,∀f∈r,DL f:=AZ λr hr f hf=>qg (hok r hr f hf).1
   have OX:=LJ Ut
   refine⟨_,rfl,x,_,_,_,_,rfl,SD,T.bq,T.mY,Jq,_,rfl,x,_,_,_,_,rfl,SD,T.bq,T.kJ,EG,_,rfl,x,_,_,_,_,rfl,SD,T.bq,T.nY,LH,?_⟩
   refine⟨Pp,o',m',yK rows,kD fo,kD fm,rfl,M9.mat,O9,m9,by rw[OX.1];exact h12,λr hr=>by rw[OX.2 r hr];exact h12,λl1 Ha sa hl1 hla=>?_⟩
   have Zh:∀n∈lG (kD fo) (kD fm) (yK rows),oh n:=λn hn=>by
    have z:∀{f:cJ},DL f->oh f.2:=λq=>⟨by have:=q.1;omega,q.2⟩
    rcases List.mem_cons.mp hn with e|hn
    ·rw[e];exact z (qg Jh.1)
    rcases List.mem_cons.mp hn with e|hn
    ·rw[e];exact z (qg Ji.1)
    obtain⟨f,hf,rfl⟩:=List.mem_map.mp hn
    obtain⟨r,hr,hfr⟩:=List.mem_flatten.mp hf
    exact z (RL r hr f hfr)
   have W8:(lG (kD fo) (kD fm) (yK rows)).length<=1000:=by
    unfold lG
    rw[List.length_cons,List.length_cons,List.length_map,xU OX.2,OX.1]
    have:sg.cps.size*sg.cps.size<=12*12:=Nat.mul_le_mul h12 h12
    omega
   refine⟨l1,_,rfl,bI.of hla,W8,Zh,λfl Hb sb hfl hlb=>?_⟩
   have FI:=Ml Zh
   have eU:qW (oJ (lG (kD fo) (kD fm) (yK rows))).1=cF (kD fo).2 (kD fm).2 (yK rows):=by rw[FI.prod,FI.unit,BZ]
   have hsm:=FI.small
   generalize (oJ (lG (kD fo) (kD fm) (yK rows))).1=UH at hlb eU hsm
   clear FI
   have hxb:=sb _ _ (sa _ _ SD)
   refine⟨_,rfl,x,_,dx,_,rfl,hxb,T.bq,T.kK,pl4,?_⟩
   generalize UE:upd Hb x (.ins p.au dx (aF "factors" (.ref fl) (aF "more" (.ref m') (aF "opening" (.ref o') (aF "pairs" (.ref Pp) (aF "signs" (.str sg) []))))))=Hc
   have hxc:Hc x=some (.ins p.au dx (aF "factors" (.ref fl) (aF "more" (.ref m') (aF "opening" (.ref o') (aF "pairs" (.ref Pp) (aF "signs" (.str sg) [])))))):=by rw[←UE];exact ah
   have fc:Off x H Hc:=by rw[←UE];exact((f9.trans (Off.of sa)).trans (Off.of sb)).trans Off.set
   have dc:Dat H9 Hc:=by rw[←UE];exact((Dat.of sa).trans (Dat.of sb)).trans (Dat.set hxb)
   have S1:Hc fl=some (.lst (UH.map V.int)):=by rw[←UE];exact Dat.set hxb fl _ (λ_ _ _ z=>by cases z) hlb
   refine⟨_,rfl,x,_,_,_,_,rfl,hxc,T.bq,T.kK,EH,fl,UH,rfl,bI.of S1,hsm,?_⟩
   have up:=Im (qg Jh.1) (qg Ji.1) RL
   have ub:=Io h12 OX (qg Jh.1) (qg Ji.1) RL
   have QI:∀{f:cJ},TL f->TM (cF (kD fo).2 (kD fm).2 (yK rows)) (kD f):=λz=>⟨qg z.1,LL z.2,Bu.div ub _⟩
   rw[eU]
   generalize hu:cF (kD fo).2 (kD fm).2 (yK rows)=u at *
   refine⟨_,rfl,x,_,dx,_,rfl,hxc,T.bq,T.lE,pl5,?_⟩
   generalize Qh:upd Hc x (.ins p.au dx (aF "unit" (.int u) (aF "factors" (.ref fl) (aF "more" (.ref m') (aF "opening" (.ref o') (aF "pairs" (.ref Pp) (aF "signs" (.str sg) [])))))))=GA
   have L7:GA x=some (.ins p.au dx (aF "unit" (.int u) (aF "factors" (.ref fl) (aF "more" (.ref m') (aF "opening" (.ref o') (aF "pairs" (.ref Pp) (aF "signs" (.str sg) []))))))):=by rw[←Qh];exact ah
   have f10:Off x H GA:=by rw[←Qh];exact fc.trans Off.set
   have Tn:Dat Hc GA:=by rw[←Qh];exact Dat.set hxc
   have Q0:Dat H9 GA:=dc.trans Tn
   have S2:GA fl=some (.lst (UH.map V.int)):=Tn fl _ (λ_ _ _ z=>by cases z) S1
   refine⟨_,rfl,x,_,_,_,_,rfl,L7,T.bq,T.gj,Jp,_,rfl,x,_,_,_,_,rfl,L7,T.bq,T.mY,G2,_,rfl,x,_,_,_,_,rfl,L7,T.bq,T.lE,LG,?_⟩
   refine⟨sg,Pp,u,yK rows,rfl,M9.dat Q0,q2,q4,OX,AZ λr hr f hf=>QI (hok r hr f hf),λd UN kvs GN hdn Yc hc=>?_⟩
   have PR:=GN _ _ L7
   refine⟨_,rfl,x,_,dx,_,rfl,PR,T.bq,T.qa,pl6,?_⟩
   generalize Mf:upd UN x (.ins p.au dx (aF "costs" (.ref d) (aF "unit" (.int u) (aF "factors" (.ref fl) (aF "more" (.ref m') (aF "opening" (.ref o') (aF "pairs" (.ref Pp) (aF "signs" (.str sg) []))))))))=Nn
   have L6:Nn x=some (.ins p.au dx (jh sg Pp o' m' u (d,fl))):=by rw[←Mf];exact ah
   have YG:Dat GA Nn:=by rw[←Mf];exact(Dat.of GN).trans (Dat.set PR)
   have f12:Off x H Nn:=by rw[←Mf];exact(f10.trans (Off.of GN)).trans Off.set
   have Yb:Nn d=some (.dT kvs):=by rw[←Mf];exact Dat.set PR d _ (λ_ _ _ z=>by cases z) Yc
   obtain⟨w1,w2,w3⟩:=QI Jh
   obtain⟨y1,y2,y3⟩:=QI Ji
   refine⟨_,rfl,x,_,_,_,_,rfl,L6,T.bq,T.kJ,yO,_,rfl,x,_,_,_,_,rfl,L6,T.bq,T.lE,xT,o',kD fo,u,rfl,(O9.dat Q0).dat YG,w1,w2.bg,w3.bg,?_⟩
   refine⟨_,rfl,x,_,dx,_,rfl,L6,T.bq,T.j6,pl7,?_⟩
   generalize Qg:upd Nn x (.ins p.au dx (aF "opening_units" (.int ((kD fo).1*(u / (kD fo).2))) (jh sg Pp o' m' u (d,fl))))=T3
   have JI:T3 x=some (.ins p.au dx (aF "opening_units" (.int ((kD fo).1*(u / (kD fo).2))) (jh sg Pp o' m' u (d,fl)))):=by rw[←Qg];exact ah
   have YF:Dat Nn T3:=by rw[←Qg];exact Dat.set L6
   have f13:Off x H T3:=by rw[←Qg];exact f12.trans Off.set
   refine⟨_,rfl,x,_,_,_,_,rfl,JI,T.bq,T.nY,(rq (by decide +kernel)).trans EX,_,rfl,x,_,_,_,_,rfl,JI,T.bq,T.lE,(rq (by decide +kernel)).trans xT,m',kD fm,u,rfl,((m9.dat Q0).dat YG).dat YF,y1,y2.bg,y3.bg,?_⟩
   refine⟨_,rfl,x,_,dx,_,rfl,JI,T.bq,T.lT,pl8,?_⟩
   have UK:Dat GA (upd T3 x (.ins p.au dx (vS sg Pp o' m' u (d,fl) ((kD fo).1*(u / (kD fo).2)) ((kD fm).1*(u / (kD fm).2))))):=YG.trans (YF.trans (Dat.set JI))
   have f14:Off x H (upd T3 x (.ins p.au dx (vS sg Pp o' m' u (d,fl) ((kD fo).1*(u / (kD fo).2)) ((kD fm).1*(u / (kD fm).2))))):=f13.trans Off.set
   refine k _ ⟨hS,OX,?_,?_,?_,?_,?_,dx,Pp,o',m',(d,fl),kvs,?_,(M9.dat Q0).dat UK,(O9.dat Q0).dat UK,(m9.dat Q0).dat UK,?_,?_,UH,hsm,?_,?_⟩ f14 (λc0 hc0 C' dx' fs' hx' hl'=>?_)
   ·rw[hu];exact AZ λr hr f hf=>QI (hok r hr f hf)
   ·rw[hu];exact QI Jh
   ·rw[hu];exact QI Ji
   ·rw[hu];exact up
   ·rw[hu];exact ub
   ·rw[hu];exact ah
   ·exact(YF.trans (Dat.set JI)) d _ (λ_ _ _ z=>by cases z) Yb
   ·rw[hu];exact hc
   ·rw[hu];exact eU
   ·exact UK fl _ (λ_ _ _ z=>by cases z) S2
   ·rw[ah]at hx'
    cases hx'
    have e:fl=c0:=V.ref.inj (Option.some.inj ((o8 (x:=sg) (P:=Pp) (o:=o') (m:=m') (u:=u) (d:=(d,fl))).symm.trans hl'))
    subst e
    cases q:H fl with
    |none=>exact hc0 q
    |some u0 =>
     by_cases ex:fl=x
     ·rw[ex,sa _ _ SD]at hfl
      cases hfl
     ·rw[(f9.trans (Off.of sa)) fl u0 q ex]at hfl
      cases hfl
end
section
variable{P:Program}{w:World}{K:PySem.W.Frag}{mg:Str->Option Value}{base:Heap}
end
section
variable{P:Program}{w:World}{K:PySem.W.Frag}{mg:Str->Option Value}{base:Heap}
end
section
variable{P:Program}{w:World}{K:PySem.W.Frag}{mg:Str->Option Value}{base:Heap}
end
section
variable{P:Program}{w:World}{K:PySem.W.Frag}{mg:Str->Option Value}{base:Heap}
theorem rS {aY:Addr} {e7:FuncData} {p:Pm} (T:Txt K mg p base) (dJ:Dm K "__init__" "NoSign.__init__" bU QL aY e7)  :aI P w K mg base (vz P w) 1 aY e7 QL (Ci p.aB):=by
 refine dJ.fn.Pb rN (λvs H Q E h=>?_) (λcdv A outer s H vs Q E hr h=>?_)
 ·obtain⟨e,i,j,rfl,_⟩:=h
  rfl
 ·obtain⟨e,i,j,rfl,he,hi,hj,k⟩:=h
  obtain⟨fI,xc⟩:=T.GB
  refine⟨_,(aj (dF (Lw T.yp rfl T.yJ (aa (pv 0) (aa (F0 (qL bB (qL (Jd (pv 1)) (qL bB (qL (Jd (pv 2)) I9))))) af))))
   (aj (FQ (pv 0) (pv 1) rfl)
   (aq (FQ (pv 0) (pv 2) rfl)))),?_⟩
  have li:=zI hi
  have lj:=zI hj
  have ti:=PyProof.Rows.int_text_len_1921 li
  have tj:=PyProof.Rows.int_text_len_1921 lj
  have l0:(Str.empty++Str.ofString "no sign that may stand there: row ").length<=50:=by decide
  have l1:=Bb l0 ti
  have l2:=Bb l1 (show(Str.ofString ", place ").length<=20 by decide)
  have l3:=Bb l2 tj
  refine⟨_,rfl,_,rfl,Nat.le_trans l0 (by decide),_,rfl,_,rfl,li,_,rfl,Nat.le_trans l1 (by decide),_,rfl,Nat.le_trans l2 (by decide),_,rfl,_,rfl,lj,_,rfl,Nat.le_trans l3 (by decide),Nat.le_trans l3 (by decide),?_⟩
  refine⟨e,p.aB,fI,none,_,rfl,he,xc,?_⟩
  refine⟨_,rfl,_,rfl,e,p.aB,rfl,T.zl,T.sZ,.inl ⟨he,λdx hdx=>?_⟩⟩
  have ne:dx≠e:=λz=>by rw[z,he]at hdx;cases hdx
  refine⟨_,rfl,_,rfl,e,p.aB,rfl,T.zl,T.qb,.inr ⟨dx,_,by rw[ao (Ne.symm ne),ah],ah,Zf,?_⟩⟩
  refine k dx _ (λb u hb JQ=>?_) hdx (by rw[ao (Ne.symm ne),ao (Ne.symm ne),ah]) ah
  have nb:b≠dx:=λz=>by rw[z,hdx]at hb;cases hb
  rw[ao nb,ao nb,ao JQ,ao nb]
  exact hb
theorem uB {iw aY:Addr} {gx e7:FuncData} {p:Pm} (T:Txt K mg p base) (eK:Dn K mg "check_known" lC Si iw gx) (dJ:Dm K "__init__" "NoSign.__init__" bU QL aY e7) (yg:YM K p.aB aY) (t7:aI P w K mg base (vz P w) 1 aY e7 QL (Ci p.aB)):aI P w K mg base (vz P w) 3 iw gx Si (Ck p.aB):=by
 refine eK.fn.Pb iD (λvs H Q E h=>?_) (λcdv A outer s H vs Q E hr h=>?_)
 ·obtain⟨sg,l,a,b,rfl,_⟩:=h
  rfl
 ·obtain⟨sg,l,a,b,rfl,hl,la,lb,kq,k⟩:=h
  refine⟨_,(aq (eW sS rfl (FY rfl T.uS (aa (pv 1) af)) (pX (n:=2) rfl (bS (aM (i:=2) iD.nd rfl (Or.inl rfl)) (bS (aM (i:=3) iD.nd rfl (Or.inl rfl)) lD))) (aq (eW sS rfl (FY rfl T.uS (aa (pv 3) af)) (pX (n:=2) rfl (bS (aM (i:=4) iD.nd rfl (Or.inl rfl)) (bS (aM (i:=5) iD.nd rfl (Or.inl rfl)) lD))) (aq (bO (aR sU (pv 5) (pv 0) (by with_unfolding_all rfl)) (aq (GS oZ yg t7 (hr.mono (by decide)) dJ.b rfl rfl T.uF (aa (pv 2) (aa (pv 4) af)))) aS)))))),?_⟩
  refine⟨_,rfl,.lst l,_,rfl,bI.of hl,Di (K:=K) (c:=.lst l) (xs:=[.str a,.str b]) (λi σ H2=>∃v2 v3 v4 v5,σ=[some (.str sg),some (.ref l),v2,v3,v4,v5]/\ai H H2/\(0<i->Of sg a)/\(1<i->Of sg b)) ⟨_,_,_,_,rfl,ai.refl _,λz=>absurd z (Nat.lt_irrefl _),λz=>absurd z (Nat.not_lt_zero _)⟩ (λi σ H2 _ ⟨_,_,_,_,_,s2,_⟩=>bI.of (s2 _ _ hl)) ?_ ?_⟩
  ·rintro i y p1 σ H2 hy hp1 ⟨v2,v3,v4,v5,rfl,s2,oa,ob⟩
   obtain⟨z,rfl,hz,hi,hgo,hbad⟩:∃z:Str,y= .str z/\z.cps.size<=1000/\i<=1/\(Of sg z->(0<i+1->Of sg a)/\(1<i+1->Of sg b))/\(∀j,(∃c,z.cps[j]? =some c/\c∉sg.cps.toList)->(∀k c,k<j->z.cps[k]? =some c->c∈sg.cps.toList)->uc sg a b i j):=by
    match i,hy,oa with
    | 0,hy,oa=>exact⟨a,(Option.some.inj hy).symm,la,Nat.zero_le _,λq=>⟨λ_=>q,λz=>absurd z (Nat.lt_irrefl _)⟩,λj h1 h2=>.inl ⟨rfl,h1,h2⟩⟩
    | 1,hy,oa=>exact⟨b,(Option.some.inj hy).symm,lb,Nat.le_refl _,λq=>⟨λ_=>oa (Nat.zero_lt_succ _),λ_=>q⟩,λj h1 h2=>.inr ⟨rfl,oa (Nat.zero_lt_succ _),h1,h2⟩⟩
    |i+2,hy,oa=>simp at hy
   refine⟨p1,_,rfl,dR.of ah,rfl,_,_,rfl,_,_,rfl,rfl,?_⟩
   refine⟨_,rfl,.txt z,_,rfl,rfl,Di (K:=K) (c:=.txt z) (xs:=fj z) (λj σ H3=>∃v4 v5,σ=[some (.str sg),some (.ref l),some (.int (i:Int)),some (.str z),v4,v5]/\ai H H3/\∀k c,k<j->z.cps[k]? =some c->c∈sg.cps.toList) ⟨_,_,rfl,s2.trans (ai.upd hp1),λk c z=>absurd z (Nat.not_lt_zero _)⟩ (λj σ H3 _ _=>rfl) ?_ ?_⟩
   ·rintro j y p2 σ H3 hy hp2 ⟨v4,v5,rfl,s3,hp⟩
    obtain⟨c,hc,rfl⟩:=signs_get hy
    have hj:=Qp hc
    have s4:=s3.trans (ai.upd (o:=.tup [.int (j:Int),.str ⟨#[c]⟩]) hp2)
    refine⟨p2,_,rfl,dR.of ah,rfl,_,_,rfl,_,_,rfl,rfl,?_⟩
    refine⟨_,rfl,_,rfl,_,_,rfl,rfl,_,rfl,?_⟩
    rw[StrLaws.found_one]
    by_cases hm:c∈sg.cps.toList
    ·rw[decide_eq_true hm]
     refine vf ⟨_,_,rfl,s4,λk d hk hd=>?_⟩
     by_cases z:k=j
     ·subst z
      rw[hc]at hd
      cases hd
      exact hm
     ·exact hp k d (by omega) hd
    ·rw[decide_eq_false hm]
     refine Ga ⟨_,rfl,_,rfl,by show 2<=sizeLine;decide,λe hn=>?_⟩
     have hne:H e=none:=ai.free s4 hn
     refine⟨e,i,j,rfl,ah,by omega,by omega,λdx H' hk hdx hx hd=>⟨rfl,some dx,hx,k i j (hbad j ⟨c,hc,hm⟩ hp) dx _ (λb u hb=>?_) ?_⟩⟩
     ·have nb:b≠e:=λz=>by rw[z,hne]at hb;cases hb
      rw[ql nb]
      exact hk b u (by rw[ao nb];exact s4 b u hb) nb
     ·have ne:dx≠e:=λz=>by rw[z,ah]at hdx;cases hdx
      rw[ql ne]
      exact hd
   ·rintro σ H3 ⟨v4,v5,rfl,s3,hp⟩
    have oz:Of sg z:=λc hc=>by
     obtain⟨k,hk,e⟩:=List.getElem_of_mem hc
     have hk':k<z.cps.size:=by simpa using hk
     exact hp k c (by rw[signs_length];exact hk') (by rw[←Array.getElem?_toList,List.getElem?_eq_getElem hk,e])
    exact⟨_,_,_,_,rfl,s3,(hgo oz).1,(hgo oz).2⟩
  ·rintro σ H2 ⟨v2,v3,v4,v5,rfl,s2,oa,ob⟩
   exact kq (oa (show 0<2 by decide)) (ob (show 1<2 by decide)) H2 s2
theorem vJ {i6 iw:Addr} {gZ gx:FuncData} {p:Pm} (T:Txt K mg p base) (fT:Dn K mg "check_rows" mq Sh i6 gZ) (eK:Dn K mg "check_known" lC Si iw gx) (zj:aI P w K mg base (vz P w) 3 iw gx Si (Ck p.aB)):aI P w K mg base (vz P w) 4 i6 gZ Sh (Fz K p.au p.aB):=by
 refine fT.fn.Pb yu (λvs H Q E h=>?_) (λcdv A outer s H vs Q E hr h=>?_)
 ·obtain⟨x,l,sg,rows,fo,fm,a,b,rfl,_⟩:=h
  rfl
 ·obtain⟨x,l,sg,rows,fo,fm,a,b,rfl,⟨_,_,_,_,_,_,_,dx,Pp,o,m,d,kvs,h1,h2,h3,h4,h5,h6⟩,hl,la,lb,kq,k⟩:=h
  refine⟨_,(aq (dF (az zj (hr.mono (by decide)) rfl eK.m eK.fn.kp eK.b .nil (Lets.passes oZ) (aa (cW (pv 0) rfl) (aa (pv 1) af))))),?_⟩
  exact⟨_,rfl,x,_,_,_,_,rfl,h1,T.bq,T.gj,o6,_,rfl,sg,l,a,b,rfl,hl,la,lb,kq,k⟩
theorem yF {i8 fO cN:Addr} {g6 dX b9:FuncData} {p:Pm} (T:Txt K mg p base) (cQ:Dn K mg "alone_cost" mw Sg i8 g6) (bA:Dn K mg "more_cost" lK l5 fO dX) (lN:aI P w K mg base b8 2 fO dX l5 (Ef K p.au)) (bE:Dn K mg "opening_cost" iE l5 cN b9) (m8:aI P w K mg base b8 2 cN b9 l5 (uq K p.au)):aI P w K mg base b8 3 i8 g6 Sg (FN K p.au):=by
 refine cQ.fn.ok yw (λvs H Q E h=>?_) (λcdv A outer s H vs Q E hr h=>?_)
 ·obtain⟨x,sg,rows,fo,fm,a,b,rfl,_⟩:=h
  rfl
 ·obtain⟨x,sg,rows,fo,fm,a,b,rfl,hP,k⟩:=h
  refine⟨_,(aj (bO (aR cH (pv 1) (pv 2) (aO _)) (aq (aL (az lN (hr.mono (by decide)) rfl bA.m bA.fn.kp bA.b .nil aN (aa (pv 0) af)))) aS)
   (aq (aL (aE dM (az m8 (hr.mono (by decide)) rfl bE.m bE.fn.kp bE.b .nil aN (aa (pv 0) af)) (az lN (hr.mono (by decide)) rfl bA.m bA.fn.kp bA.b .nil aN (aa (pv 0) af)))))),?_⟩
  refine⟨_,rfl,_,rfl,rfl,_,rfl,?_⟩
  by_cases e:a=b
  ·rw[if_pos e]at k
   rw[decide_eq_true (show V.str a=V.str b by rw[e])]
   refine ng ?_
   exact⟨_,rfl,x,sg,rows,fo,fm,rfl,hP,k⟩
  ·rw[if_neg e]at k
   rw[decide_eq_false (show ¬V.str a=V.str b from λz=>e (V.str.inj z))]
   refine jr ?_
   exact⟨_,rfl,x,sg,rows,fo,fm,rfl,hP,_,rfl,x,sg,rows,fo,fm,rfl,hP,_,_,rfl,rfl,k⟩
theorem AK {jC:Addr} {iO:FuncData} {p:Pm} (T:Txt K mg p base) (gE:Dn K mg "may_begin" nB Sf jC iO)  :aI P w K mg base b8 1 jC iO Sf (IK K):=by
 refine gE.fn.ok Ar (λvs H Q E h=>?_) (λcdv A outer s H vs Q E hr h=>?_)
 ·obtain⟨m,a,q,rfl,_⟩:=h
  rfl
 ·obtain⟨m,a,q,rfl,hq,k⟩:=h
  refine⟨_,(aj (bO (aR cH (pv 0) bB (aO _)) (aq (aL (j4 (cC cH (aW cX (pv 1) ak (λ_ _=>rfl)) ak (aO _)) (j3 (cC cH (aW cX (pv 1) ak (λ_ _=>rfl)) ak (aO _)))))) aS)
   (aj (bO (aR cH (pv 0) bB (aO _)) (aq (aL (cC cH (aW cX (pv 1) ak (λ_ _=>rfl)) ak (aO _)))) aS)
   (aj (bO (aR cH (pv 0) bB (aO _)) (aq (aL (cC cH (aW cX (pv 1) ak (λ_ _=>rfl)) ak (aO _)))) aS)
   (aq (aL CD))))),?_⟩
  unfold vK at k
  refine⟨_,rfl,rfl,_,rfl,?_⟩
  refine ite_str (λh1=>?_) λh1=>?_
  ·rw[if_pos h1]at k
   refine⟨_,rfl,_,_,_,_,rfl,rfl,hq,rfl,rfl,_,rfl,?_⟩
   refine n8 (λz=>?_) λz=>?_
   ·refine⟨_,rfl,_,_,_,_,rfl,rfl,hq,rfl,rfl,?_⟩
    rw[decide_eq_true z,Bool.true_and]at k
    rw[qm]
    exact k
   ·rw[decide_eq_false z,Bool.false_and]at k
    exact k
  rw[if_neg h1]at k
  refine⟨_,rfl,rfl,_,rfl,?_⟩
  refine ite_str (λh2=>?_) λh2=>?_
  ·rw[if_pos h2]at k
   refine⟨_,rfl,_,_,_,_,rfl,rfl,hq,rfl,rfl,?_⟩
   rw[qm]
   exact k
  rw[if_neg h2]at k
  refine⟨_,rfl,rfl,_,rfl,?_⟩
  refine ite_str (λh3=>?_) λh3=>?_
  ·rw[if_pos h3]at k
   refine⟨_,rfl,_,_,_,_,rfl,rfl,hq,rfl,rfl,?_⟩
   rw[qm]
   exact k
  rw[if_neg h3]at k
  exact k
theorem Er {mH:Addr} {kN:FuncData} {p:Pm} (T:Txt K mg p base) (jL:Dn K mg "may_end" qD Se mH kN)  :aI P w K mg base b8 1 mH kN Se (IJ K):=by
 refine jL.fn.ok Ei (λvs H Q E h=>?_) (λcdv A outer s H vs Q E hr h=>?_)
 ·obtain⟨m,f,s,a,q,rfl,_⟩:=h
  rfl
 ·obtain⟨m,f,s,a,q,rfl,hq,hf,hs,k⟩:=h
  have zf:f.length<=sizeLine:=Nat.le_trans hf (by decide)
  have zs:s.length<=sizeLine:=Nat.le_trans hs (by decide)
  refine⟨_,(aj (bO (aR cH (pv 0) bB (aO _)) (aq (aL (j4 (cC cH (aW cX (pv 3) ak (λ_ _=>rfl)) (aC (bz) rfl T.eV ck (aa (pv 1) af)) (aO _)) (j3 (cC cH (aW cX (pv 3) ak (λ_ _=>rfl)) (aC (bz) rfl T.eV ck (aa (pv 2) af)) (aO _)))))) aS)
   (aj (bO (aR cH (pv 0) bB (aO _)) (aq (aL CD)) aS)
   (aq (aL (cC cH (aW cX (pv 3) ak (λ_ _=>rfl)) (aC (bz) rfl T.eV ck (aa (pv 1) af)) (aO _)))))),?_⟩
  unfold AY at k
  refine⟨_,rfl,rfl,_,rfl,?_⟩
  refine ite_str (λh1=>?_) λh1=>?_
  ·rw[if_pos h1]at k
   refine⟨_,rfl,_,_,_,_,rfl,rfl,hq,rfl,_,rfl,_,_,rfl,⟨zf,rfl⟩,rfl,_,rfl,?_⟩
   refine n8 (λz=>?_) λz=>?_
   ·refine⟨_,rfl,_,_,_,_,rfl,rfl,hq,rfl,_,rfl,_,_,rfl,⟨zs,rfl⟩,rfl,?_⟩
    rw[decide_eq_true (show q.1=(f.cps.size:Int) from z),Bool.true_and]at k
    rw[qm]
    exact k
   ·rw[decide_eq_false (show ¬q.1=(f.cps.size:Int) from z),Bool.false_and]at k
    exact k
  rw[if_neg h1]at k
  refine⟨_,rfl,rfl,_,rfl,?_⟩
  refine ite_str (λh2=>?_) λh2=>?_
  ·rw[if_pos h2]at k
   exact k
  rw[if_neg h2]at k
  refine⟨_,rfl,_,_,_,_,rfl,rfl,hq,rfl,_,rfl,_,_,rfl,⟨zf,rfl⟩,rfl,?_⟩
  rw[qm]
  exact k
end
section
variable{P:Program}{w:World}{K:PySem.W.Frag}{mg:Str->Option Value}{base:Heap}
theorem sX {gB:Addr} {fD:FuncData} {p:Pm} (T:Txt K mg p base) (dB:Dn K mg "check_manner" j0 ["manner"] gB fD)  :aI P w K mg base (vz P w) 1 gB fD ["manner"] (pP p.aG):=by
 refine dB.fn.Pb vD (λvs H Q E h=>?_) (λcdv A outer s H vs Q E hr h=>?_)
 ·obtain⟨m,rfl,_⟩:=h
  rfl
 ·obtain⟨m,rfl,kq,ke⟩:=h
  refine⟨_,(aq (bO (aR sV (pv 0) (oX (v:=.ref p.kU) rfl T.Hs rfl) (by with_unfolding_all rfl)) (aq (I8 oZ T.BV rfl rfl T.qe (aa (F0 (qL (Ls (pv 0)) (qL bB I9))) af))) aS)),?_⟩
  refine⟨_,rfl,_,_,rfl,.inr (T.GQ _),rfl,rfl,_,rfl,?_⟩
  show if(if true=true then !L4 (.str m) [.str (Str.ofString "whole"),.str (Str.ofString "within"),.str (Str.ofString "over"),.str (Str.ofString "stretch")]else _)=true then _ else _
  rw[if_pos rfl]
  cases hm:jz m with
  |true =>
   have e:L4 (.str m) [.str (Str.ofString "whole"),.str (Str.ofString "within"),.str (Str.ofString "over"),.str (Str.ofString "stretch")]=true:=hm
   rw[e]
   exact vf (kq hm)
  |false =>
   obtain⟨hl,k⟩:=ke hm
   have e:L4 (.str m) [.str (Str.ofString "whole"),.str (Str.ofString "within"),.str (Str.ofString "over"),.str (Str.ofString "stretch")]=false:=hm
   rw[e]
   refine Ga ⟨_,rfl,_,rfl,Nat.le_trans hl (by decide),_,rfl,?_,_,rfl,?_,?_,by show 1<=sizeLine;decide,k⟩
   ·exact Kz hl (by decide)
   ·exact z5 hl (by decide)
   ·exact z5 hl (by decide)
end
section
variable{P:Program}{w:World}{K:PySem.W.Frag}{mg:Str->Option Value}{base:Heap}
theorem yH {ja:Addr} {g8:FuncData} {p:Pm} (T:Txt K mg p base) (fV:Dn K mg "all_places" mD Sd ja g8)  :aI P w K mg base b8 1 ja g8 Sd MI:=by
 refine fV.fn.ok k6 (λvs H Q E h=>?_) (λcdv A outer s H vs Q E hr h=>?_)
 ·obtain⟨f,s,rfl,_⟩:=h
  rfl
 ·obtain⟨f,s,rfl,hf,hs,kk⟩:=h
  have lf:f.length<=sizeLine:=Nat.le_trans hf (by decide)
  have ls:s.length<=sizeLine:=Nat.le_trans hs (by decide)
  have hf':f.length<=12:=hf
  have hs':s.length<=12:=hs
  refine⟨_,(aj (aD (i:=2) k6.nd rfl (Or.inl rfl) (eX af))
   (aj (eW PassesOwn.never rfl (gi rfl T.jP (aa (aE dM (aC (bz) rfl T.eV ck (aa (pv 0) af)) ak) af)) (aM (i:=3) k6.nd rfl (Or.inl rfl)) (aq (eW PassesOwn.never rfl (gi rfl T.jP (aa (aE dM (aC (bz) rfl T.eV ck (aa (pv 1) af)) ak) af)) (aM (i:=4) k6.nd rfl (Or.inl rfl)) (aq (dF (mU PySem.F.plainAttrs_list PySem.F.slot_list_append PySem.F.type_list_append fu (pv 2) (aa (bG (aa (pv 3) (aa (pv 4) af))) af)))))))
   (aq (aL (pv 2))))),?_⟩
  refine⟨by show 0<=sizeLine;decide,λl hl=>?_⟩
  refine⟨_,rfl,_,_,rfl,⟨lf,rfl⟩,_,_,rfl,rfl,_,rfl,by omega,by omega,?_⟩
  rw[show((f.length:Int)+1).toNat=f.cps.size+1 from by show((f.cps.size:Int)+1).toNat=_;omega]
  refine jA (lo:=0) (n:=f.cps.size+1) (λi σ H2=>∃v3 v4,∃ps:List Addr,σ=[some (.str f),some (.str s),some (.ref l),v3,v4]/\ai H H2/\H2 l=some (.lst (ps.map V.ref))/\Paired (Gy (Wo l H2)) ps (rws s.cps.size i))
   ⟨_,_,[],rfl,ai.upd hl,ah,.nil⟩ ?_ ?_
  ·rintro i σ H2 hi ⟨v3,v4,ps,rfl,s2,h2,pp⟩
   refine⟨_,rfl,_,_,rfl,⟨ls,rfl⟩,_,_,rfl,rfl,_,rfl,by omega,by omega,?_⟩
   rw[show((s.length:Int)+1).toNat=s.cps.size+1 from by show((s.cps.size:Int)+1).toNat=_;omega]
   refine jA (lo:=0) (n:=s.cps.size+1) (λj σ H3=>∃v4,∃ps:List Addr,σ=[some (.str f),some (.str s),some (.ref l),some (.int (0+(i:Int))),v4]/\ai H H3/\H3 l=some (.lst (ps.map V.ref))/\Paired (Gy (Wo l H3)) ps ((rws s.cps.size i)++(List.range j).map λj=>(i,j)))
    ⟨_,ps,rfl,s2,h2,by simpa using pp⟩ ?_ ?_
   ·rintro j σ H3 hj ⟨v4,ps,rfl,s3,h3,pp⟩
    refine⟨_,rfl,.inl ⟨rfl,_,bI.of h3⟩,_,rfl,_,rfl,by show 2<=sizeLine;decide,λp hp=>?_⟩
    have np:p≠l:=λz=>by rw[z,h3]at hp;cases hp
    have hlen:=Paired.len pp
    rw[List.length_append,Ll,List.length_map,List.length_range]at hlen
    refine⟨l,_,_,rfl,rfl,by rw[ao (Ne.symm np)];exact h3,?_,?_⟩
    ·rw[List.length_map,hlen]
     have:i*(s.cps.size+1)<=f.cps.size*(s.cps.size+1):=Nat.mul_le_mul_right _ (by omega)
     have e:(f.cps.size+1)*(s.cps.size+1)=f.cps.size*(s.cps.size+1)+(s.cps.size+1):=Nat.succ_mul _ _
     exact G7 hf hs (by omega)
    ·refine⟨_,ps++[p],rfl,sO s3 hl hp,by rw[ah,List.map_append];rfl,?_⟩
     rw[List.range_succ,List.map_append,←List.append_assoc]
     refine GP.Paired.snoc (Paired.dP pp λ_ _ z=>z.same (Nr hp)) ?_
     show Wo l _ p=some (.tup [.int (i:Int),.int (j:Int)])
     rw[Ie np,Int.zero_add,Int.zero_add]
   ·rintro σ H3 ⟨v4,ps,rfl,s3,h3,pp⟩
    exact⟨_,_,ps,rfl,s3,h3,by rw[Ct];exact pp⟩
  ·rintro σ H2 ⟨v3,v4,ps,rfl,s2,h2,pp⟩
   exact⟨_,rfl,kk l H2 s2 hl (O3 h2 pp)⟩
theorem yx {iX fN i8:Addr} {gU dW g6:FuncData} {p:Pm} (T:Txt K mg p base) (fP:Dn K mg "steps_from" lY Sb iX gU) (cA:Dn K mg "pair_cost" lJ PC fN dW) (qw:aI P w K mg base b8 1 fN dW PC (rK K p.au)) (cQ:Dn K mg "alone_cost" mw Sg i8 g6) (tY:aI P w K mg base b8 3 i8 g6 Sg (FN K p.au)):aI P w K mg base b8 4 iX gU Sb (Fy K p.au):=by
 refine fP.fn.ok kY (λvs H Q E h=>?_) (λcdv A outer s H vs Q E hr h=>?_)
 ·obtain⟨x,pl,T1,f,s,i,j,c,rfl,_⟩:=h
  rfl
 ·obtain⟨x,pl,T1,f,s,i,j,c,rfl,hP,of,os,hf,hs,hp,kk⟩:=h
  have lf:f.length<=sizeLine:=Nat.le_trans hf (by decide)
  have ls:s.length<=sizeLine:=Nat.le_trans hs (by decide)
  refine⟨_,(aj (aD (i:=5) kY.nd rfl (Or.inl rfl) (aW cX (pv 3) ak (λ_ _=>rfl)))
   (aj (aD (i:=6) kY.nd rfl (Or.inl rfl) (aW cX (pv 3) ak (λ_ _=>rfl)))
   (aj (aD (i:=7) kY.nd rfl (Or.inl rfl) (eX af))
   (bJ (bO (PW.pt (I0 (aR CF (pv 5) (aC (bz) rfl T.eV ck (aa (pv 1) af)) (aO _)) (FP (aR CF (pv 6) (aC (bz) rfl T.eV ck (aa (pv 2) af)) (aO _))))) (aq (dF (mU PySem.F.plainAttrs_list PySem.F.slot_list_append PySem.F.type_list_append fu (pv 7) (aa (bG (aa (bG (aa (bG (aa (aE dM (pv 5) ak) (aa (aE dM (pv 6) ak) af))) (aa bB af))) (aa (az qw (hr.mono (by decide)) rfl cA.m cA.fn.kp cA.b .nil aN (aa (pv 0) (aa (aW uJ (pv 1) (pv 5) (λ_ _=>rfl)) (aa (aW uJ (pv 2) (pv 6) (λ_ _=>rfl)) af)))) af))) af)))) aS)
   (bJ (bO (aR CF (pv 5) (aC (bz) rfl T.eV ck (aa (pv 1) af)) (aO _)) (aq (dF (mU PySem.F.plainAttrs_list PySem.F.slot_list_append PySem.F.type_list_append fu (pv 7) (aa (bG (aa (bG (aa (bG (aa (aE dM (pv 5) ak) (aa (pv 6) af))) (aa bB af))) (aa (az tY (hr.mono (by decide)) rfl cQ.m cQ.fn.kp cQ.b .nil aN (aa (pv 0) (aa bB (aa (pv 4) af)))) af))) af)))) aS)
   (bJ (bO (aR CF (pv 6) (aC (bz) rfl T.eV ck (aa (pv 2) af)) (aO _)) (aq (dF (mU PySem.F.plainAttrs_list PySem.F.slot_list_append PySem.F.type_list_append fu (pv 7) (aa (bG (aa (bG (aa (bG (aa (pv 5) (aa (aE dM (pv 6) ak) af))) (aa bB af))) (aa (az tY (hr.mono (by decide)) rfl cQ.m cQ.fn.kp cQ.b .nil aN (aa (pv 0) (aa bB (aa (pv 4) af)))) af))) af)))) aS)
   (aq (aL (pv 7))))))))),?_⟩
  refine⟨_,rfl,pl,_,_,_,rfl,rfl,dR.of hp,rfl,?_⟩
  refine⟨_,rfl,pl,_,_,_,rfl,rfl,dR.of hp,rfl,?_⟩
  refine⟨by show 0<=sizeLine;decide,λl hl=>?_⟩
  have Yk:∀{H2},ai H H2->m7 K p.au H2 x T1.1 T1.2.1 T1.2.2.1 T1.2.2.2:=λe=>m7.same e hP
  refine⟨λσ H'=>∃ps:List Addr,σ=[some (.ref x),some (.str f),some (.str s),some (.ref pl),some (.str ⟨#[c]⟩),some (.int (i:Int)),some (.int (j:Int)),some (.ref l)]/\ai H H'/\H' l=some (.lst (ps.map V.ref))/\ps.length<=1 ∧
   Paired (Mw (Wo l H')) ps (if i<f.cps.size/\j<s.cps.size then [((i+1,j+1,112),(cK T1 f f s).pc i j)]else []),?_,?_⟩
  ·refine⟨_,rfl,_,rfl,_,_,rfl,⟨lf,rfl⟩,_,_,rfl,rfl,_,rfl,?_⟩
   refine cD (λh1=>?_) (λh1=>?_)
   ·refine⟨_,rfl,_,rfl,_,_,rfl,⟨ls,rfl⟩,_,_,rfl,rfl,_,rfl,?_⟩
    have pL:i<f.cps.size:=by have z:(i:Int)<(f.cps.size:Int):=h1;omega
    refine cD (λh2=>?_) (λh2=>?_)
    ·have h2':j<s.cps.size:=by have z:(j:Int)<(s.cps.size:Int):=h2;omega
     obtain⟨a,ha⟩:=Be pL
     obtain⟨b,hb⟩:=Be h2'
     obtain⟨i',j',fr,hi',hj',hat,YB⟩:=Jg (u:=uT T1) hP.Y5 (of a (nR ha)) (os b (nR hb))
     refine⟨_,rfl,.inl ⟨rfl,_,bI.of ah⟩,_,rfl,_,_,rfl,rfl,_,rfl,_,_,rfl,rfl,by show 2<=sizeLine;decide,λp1 hp1=>⟨by show 2<=sizeLine;decide,λq1 hq1=>?_⟩⟩
     have s0:=(ai.upd (o:=.lst []) hl).trans ((ai.upd hp1).trans (ai.upd (o:=.tup [.ref p1,.str (Str.ofString "p")]) hq1))
     refine⟨_,rfl,_,rfl,_,rfl,f,_,a,rfl,rfl,lf,ee (kh ha),_,rfl,_,rfl,s,_,b,rfl,rfl,ls,ee (kh hb),x,T1.1,T1.2.1,T1.2.2.1,T1.2.2.2,i',j',a,b,fr,rfl,Yk s0,hi',hj',hat,λH5 s5=>⟨by show 2<=sizeLine;decide,λr1 hr1=>?_⟩⟩
     obtain⟨h5,nr,sw,st⟩:=Ec (t:=((i+1,j+1,112),(cK T1 f f s).pc i j)) (y:=.lst ([]++[.ref r1])) ah hp1 hq1 s5 hr1 rfl rfl sP (by
      show V.int (fr.1*(uT T1 / fr.2))=V.int (RI T1.1 T1.2.1 (uT T1) (f.cps.toList.getD i 0) (s.cps.toList.getD j 0))
      rw[List.getD_eq_getElem?_getD,List.getD_eq_getElem?_getD,kh ha,kh hb]
      exact congrArg V.int YB.symm)
     refine⟨l,_,_,rfl,rfl,by rw[ao (Ne.symm nr)];exact h5,by show 0<sizeLine;decide,[r1],rfl,sO (s0.trans s5) hl hr1,ah,Nat.le_refl _,?_⟩
     rw[if_pos ⟨pL,h2'⟩]
     exact .cons st .nil
    ·have h2':¬j<s.cps.size:=λz=>h2 (by show(j:Int)<(s.cps.size:Int);omega)
     exact⟨[],rfl,ai.upd hl,ah,Nat.zero_le _,by rw[if_neg (λz=>h2' z.2)];exact .nil⟩
   ·have pL:¬i<f.cps.size:=λz=>h1 (by show(i:Int)<(f.cps.size:Int);omega)
    refine jr ?_
    exact⟨[],rfl,ai.upd hl,ah,Nat.zero_le _,by rw[if_neg (λz=>pL z.1)];exact .nil⟩
  rintro σ H2 ⟨ps,rfl,s2,h2,l2,pp⟩
  refine⟨λσ H'=>∃ps:List Addr,σ=[some (.ref x),some (.str f),some (.str s),some (.ref pl),some (.str ⟨#[c]⟩),some (.int (i:Int)),some (.int (j:Int)),some (.ref l)]/\ai H H'/\H' l=some (.lst (ps.map V.ref))/\ps.length<=2 ∧
   Paired (Mw (Wo l H')) ps ((if i<f.cps.size/\j<s.cps.size then [((i+1,j+1,112),(cK T1 f f s).pc i j)]else [])++(if i<f.cps.size then [((i+1,j,97),(cK T1 f f s).ac 97 c)]else [])),?_,?_⟩
  ·refine⟨_,rfl,_,rfl,_,_,rfl,⟨lf,rfl⟩,_,_,rfl,rfl,_,rfl,?_⟩
   refine cD (λh1=>?_) (λh1=>?_)
   ·have pL:i<f.cps.size:=by have z:(i:Int)<(f.cps.size:Int):=h1;omega
    refine⟨_,rfl,.inl ⟨rfl,_,bI.of h2⟩,_,rfl,_,_,rfl,rfl,_,rfl,by show 2<=sizeLine;decide,λp1 hp1=>⟨by show 2<=sizeLine;decide,λq1 hq1=>?_⟩⟩
    have s0:=s2.trans ((ai.upd hp1).trans (ai.upd (o:=.tup [.ref p1,.str (Str.ofString "a")]) hq1))
    refine⟨_,rfl,_,rfl,x,T1.1,T1.2.1,T1.2.2.1,T1.2.2.2,_,_,rfl,Yk s0,by show 2<=sizeLine;decide,λr1 hr1=>?_⟩
    obtain⟨h5,nr,sw,st⟩:=Ec (t:=((i+1,j,97),(cK T1 f f s).ac 97 c)) (y:=.lst (ps.map V.ref++[.ref r1])) h2 hp1 hq1 (ai.refl _) hr1 rfl rfl sA (Ng sA)
    refine⟨l,_,_,rfl,rfl,by rw[ao (Ne.symm nr)];exact h5,by rw[List.length_map];exact Nat.lt_of_le_of_lt l2 (by decide),ps++[r1],rfl,sO s0 hl hr1,by rw[ah,List.map_append];rfl,by rw[List.length_append];exact Nat.succ_le_succ l2,?_⟩
    rw[if_pos pL]
    exact GP.Paired.snoc (Paired.dP pp λ_ _ z=>z.same sw) st
   ·have pL:¬i<f.cps.size:=λz=>h1 (by show(i:Int)<(f.cps.size:Int);omega)
    exact⟨ps,rfl,s2,h2,by omega,by rw[if_neg pL,List.append_nil];exact pp⟩
  rintro σ H3 ⟨ps,rfl,s3,h3,l3,pp⟩
  refine⟨λσ H'=>∃ps:List Addr,σ=[some (.ref x),some (.str f),some (.str s),some (.ref pl),some (.str ⟨#[c]⟩),some (.int (i:Int)),some (.int (j:Int)),some (.ref l)]/\ai H H'/\H' l=some (.lst (ps.map V.ref)) ∧
   Paired (Mw (Wo l H')) ps (((if i<f.cps.size/\j<s.cps.size then [((i+1,j+1,112),(cK T1 f f s).pc i j)]else [])++(if i<f.cps.size then [((i+1,j,97),(cK T1 f f s).ac 97 c)]else []))++(if j<s.cps.size then [((i,j+1,98),(cK T1 f f s).ac 98 c)]else [])),?_,?_⟩
  ·refine⟨_,rfl,_,rfl,_,_,rfl,⟨ls,rfl⟩,_,_,rfl,rfl,_,rfl,?_⟩
   refine cD (λh1=>?_) (λh1=>?_)
   ·have pL:j<s.cps.size:=by have z:(j:Int)<(s.cps.size:Int):=h1;omega
    refine⟨_,rfl,.inl ⟨rfl,_,bI.of h3⟩,_,rfl,_,rfl,_,_,rfl,rfl,by show 2<=sizeLine;decide,λp1 hp1=>⟨by show 2<=sizeLine;decide,λq1 hq1=>?_⟩⟩
    have s0:=s3.trans ((ai.upd hp1).trans (ai.upd (o:=.tup [.ref p1,.str (Str.ofString "b")]) hq1))
    refine⟨_,rfl,_,rfl,x,T1.1,T1.2.1,T1.2.2.1,T1.2.2.2,_,_,rfl,Yk s0,by show 2<=sizeLine;decide,λr1 hr1=>?_⟩
    obtain⟨h5,nr,sw,st⟩:=Ec (t:=((i,j+1,98),(cK T1 f f s).ac 98 c)) (y:=.lst (ps.map V.ref++[.ref r1])) h3 hp1 hq1 (ai.refl _) hr1 rfl rfl sB (Ng sB)
    refine⟨l,_,_,rfl,rfl,by rw[ao (Ne.symm nr)];exact h5,by rw[List.length_map];exact Nat.lt_of_le_of_lt l3 (by decide),ps++[r1],rfl,sO s0 hl hr1,by rw[ah,List.map_append];rfl,?_⟩
    rw[if_pos pL]
    exact GP.Paired.snoc (Paired.dP pp λ_ _ z=>z.same sw) st
   ·have pL:¬j<s.cps.size:=λz=>h1 (by show(j:Int)<(s.cps.size:Int);omega)
    exact⟨ps,rfl,s3,h3,by rw[if_neg pL,List.append_nil];exact pp⟩
  rintro σ H4 ⟨ps,rfl,s4,h4,pp⟩
  refine⟨_,rfl,kk l H4 s4 hl λm=>⟨ps,h4,?_⟩⟩
  rw[List.append_assoc]at pp
  exact Paired.dP pp λ_ _ z=>z.same Wo.sub
end
section
variable{P:Program}{w:World}{K:PySem.W.Frag}{mg:Str->Option Value}{base:Heap}
theorem AU {jK iX:Addr} {iW gU:FuncData} {p:Pm} (T:Txt K mg p base) (gM:Dn K mg "all_steps" nL Sa jK iW) (fP:Dn K mg "steps_from" lY Sb iX gU) (BG:aI P w K mg base b8 4 iX gU Sb (Fy K p.au)):aI P w K mg base b8 5 jK iW Sa (IQ P w K p.au):=by
 refine gM.fn.ok lX (λvs H Q E h=>?_) (λcdv A outer s H vs Q E hr h=>?_)
 ·obtain⟨x,lp,T1,f,s,rfl,_⟩:=h
  rfl
 ·obtain⟨x,lp,T1,f,s,rfl,hP,of,os,hf,hs,⟨ps,QU,pp⟩,kk⟩:=h
  have pw:=qK f.cps.size s.cps.size
  refine⟨_,(aj (aD (i:=4) lX.nd rfl (Or.inl rfl) (AD (Pr:=P) (wo:=w) rfl rfl))
   (aj (eW PassesOwn.never rfl (jn (pv 3)) (aM (i:=5) lX.nd rfl (Or.inl rfl)) (aq (eW PassesOwn.never rfl (O4 (oX (v:=.ref p.pB) rfl T.Qj rfl)) (aM (i:=6) lX.nd rfl (Or.inl rfl)) (aq (Av (Pr:=P) (wo:=w) (jt hr) (pv 4) (bG (aa (pv 5) (aa (pv 6) af))) (az BG (hr.mono (by decide)) rfl fP.m fP.fn.kp fP.b .nil aN (aa (pv 0) (aa (pv 1) (aa (pv 2) (aa (pv 5) (aa (pv 6) af)))))) rfl rfl rfl)))))
   (aq (aL (pv 4))))),?_⟩
  refine λd hd=>?_
  have s1:ai H (L2.upd H d (AV P w d [])):=ai.upd hd
  refine⟨_,rfl,lp,rfl,⟨_,bI.of (s1 _ _ QU)⟩,?_⟩
  refine oH (K:=K) (a:=lp) (xs:=ps.map V.ref) (λa σ H2=>∃v5 v6 kvs,σ=[some (.ref x),some (.str f),some (.str s),some (.ref lp),some (.ref d),v5,v6]/\ai H H2/\H2 d=some (AV P w d kvs)/\(∀e∈kvs,jj (Wo d H2) e.2.1 e.1)/\∀m,HE (Wo d H2) (cK T1 m f s) kvs (dj ((placesOf f.cps.size s.cps.size).take a)))
   ⟨_,_,[],rfl,s1,ah,(λe he=>nomatch he),λm=>by rw[List.take_zero];exact .nil⟩ (λa σ H2 _ ⟨_,_,_,_,s2,_⟩=>bI.of (s2 _ _ QU)) ?_ ?_
  ·rintro a y σ H2 hy ⟨v5,v6,kvs,rfl,s2,hd2,hk2,hst⟩
   obtain⟨pl,hpl,rfl⟩:=kL hy
   obtain⟨q,hq,hpq⟩:=GP.Paired.at pp hpl
   have hqn:=dO.mp (List.mem_of_getElem? hq)
   refine⟨p.pB,rfl,⟨_,T.IY _⟩,?_⟩
   refine Mj (K:=K) (a:=p.pB) (xs:=[V.str (Str.ofString "p"),V.str (Str.ofString "a"),V.str (Str.ofString "b")]) (λb σ H3=>∃v6 kvs,σ=[some (.ref x),some (.str f),some (.str s),some (.ref lp),some (.ref d),some (.ref pl),v6]/\ai H H3/\H3 d=some (AV P w d kvs)/\(∀e∈kvs,jj (Wo d H3) e.2.1 e.1)/\∀m,HE (Wo d H3) (cK T1 m f s) kvs (dj ((placesOf f.cps.size s.cps.size).take a)++st3 q b))
    ⟨_,kvs,rfl,s2,hd2,hk2,λm=>by show HE _ _ _ (_++[]);rw[List.append_nil];exact hst m⟩ (λb σ H3 _ _=>T.IY _) ?_ ?_
   ·rintro b y σ H3 hy ⟨v6,kvs,rfl,s3,Me,Uy,hst⟩
    obtain⟨c,hc,rfl⟩:=Qu hy
    refine⟨_,rfl,_,rfl,_,rfl,_,rfl,_,rfl,x,pl,T1,f,s,q.1,q.2,c,rfl,hP.same s3,of,os,hf,hs,s3 _ _ hpq,λl H4 s4 hl hsl=>?_⟩
    refine⟨_,rfl,_,rfl,_,rfl,by show 2<=sizeLine;decide,λq1 hq1=>?_⟩
    have HY:=s4 _ _ Me
    have nq:q1≠d:=λz=>by rw[z,HY]at hq1;cases hq1
    have nl:l≠d:=λz=>by rw[z,Me]at hl;cases hl
    have kq:jj (L2.upd H4 q1 (.tup [.ref pl,.str ⟨#[c]⟩])) q1 (f6 (q.1,q.2,c)):=⟨pl,ah,by rw[ao (aP (s4 _ _ (s3 _ _ hpq)) hq1)];exact s4 _ _ (s3 _ _ hpq)⟩
    have sw:ai (Wo d H3) (L2.upd H4 q1 (.tup [.ref pl,.str ⟨#[c]⟩])):=λb u h=>ai.upd hq1 b u (s4 b u (Wo.sub b u h))
    have hno:=MH (hst f) (OU pw hq hc)
    have hal:a<(placesOf f.cps.size s.cps.size).length:=(List.getElem?_eq_some_iff.mp hq).1
    have hlen:kvs.length<sizeLine:=by
     have z:=OV (q:=q) (b:=b) hal
     rw[←Paired.len (hst f),places_len]at z
     exact G7 hf hs z
    refine⟨d,kvs,_,q1,rfl,rfl,⟨by rw[ao (Ne.symm nq)];exact HY,λe he=>jj.same (Uy e he) sw⟩,kq,hlen,?_⟩
    rw[Jj hno]
    have Y4:ai (Wo d H3) (Wo d (L2.upd (L2.upd H4 q1 (.tup [.ref pl,.str ⟨#[c]⟩])) d (AV P w d (kvs++[(f6 (q.1,q.2,c),q1,.ref l)])))):=λb u h=>Wo.in (Wo.ne h) (by rw[ao (Wo.ne h)];exact sw b u h)
    refine⟨_,_,rfl,?_,ah,λe he=>?_,λm=>?_⟩
    ·exact ai.at ((s3.trans s4).trans (ai.upd hq1)) hd
    ·rcases List.mem_append.mp he with he|he
     ·exact jj.same (Uy e he) Y4
     ·rw[List.mem_singleton.mp he]
      obtain⟨pl',k1,k2⟩:=kq
      exact⟨pl',Wo.in nq (by rw[ao nq];exact k1),Wo.in (λz=>by rw[z,ao (Ne.symm nq),HY]at k2;cases k2) (by rw[ao (λz=>by rw[z,ao (Ne.symm nq),HY]at k2;cases k2)];exact k2)⟩
    ·rw[IA hc,←List.append_assoc]
     refine GP.Paired.snoc ((hst m).same Y4) ⟨rfl,l,rfl,(hsl m).da.same λb u h=>?_⟩
     have h':H4 b=some u:=by
      unfold sF at h
      split at h
      ·next e=>cases h;exact e
      ·next e=>cases h;exact e
      ·cases h
     have nb:b≠d:=λz=>by
      rw[z,HY]at h'
      unfold sF at h
      rw[z,HY]at h
      cases h
     exact Wo.in nb (by rw[ao nb];exact ai.upd hq1 _ _ h')
   ·rintro σ H3 ⟨v6,kvs,rfl,s3,Me,Uy,hst⟩
    exact⟨_,_,kvs,rfl,s3,Me,Uy,λm=>by rw[Cc hq];exact hst m⟩
  ·rintro σ H2 ⟨v5,v6,kvs,rfl,s2,hd2,hk2,hst⟩
   refine⟨_,rfl,kk d kvs H2 s2 hd ⟨hd2,λe he=>jj.same (hk2 e he) Wo.sub⟩ λm=>?_⟩
   have z:=(hst m).same Wo.sub
   rw[List.length_map,Paired.len pp,List.take_length]at z
   exact z
theorem CN {kT mH:Addr} {jB kN:FuncData} {p:Pm} (T:Txt K mg p base) (iL:Dn K mg "all_ends" oU R9 kT jB) (jL:Dn K mg "may_end" qD Se mH kN) (HN:aI P w K mg base b8 1 mH kN Se (IJ K)):aI P w K mg base b8 2 kT jB R9 FH:=by
 refine iL.fn.ok pU (λvs H Q E h=>?_) (λcdv A outer s H vs Q E hr h=>?_)
 ·obtain⟨lp,f,s,m,rfl,_⟩:=h
  rfl
 ·obtain⟨lp,f,s,m,rfl,hf,hs,⟨ps,QU,pp⟩,kk⟩:=h
  refine⟨_,(aj (aD (i:=4) pU.nd rfl (Or.inl rfl) CC)
   (aj (eW PassesOwn.never rfl (jn (pv 2)) (aM (i:=5) pU.nd rfl (Or.inl rfl)) (aq (FT (Dd hr) (pv 4) (pv 5) (az HN (hr.mono (by decide)) rfl jL.m jL.fn.kp jL.b .nil aN (aa (pv 3) (aa (pv 0) (aa (pv 1) (aa (pv 5) af))))) rfl)))
   (aq (aL (pv 4))))),?_⟩
  refine λd hd=>?_
  have s1:ai H (L2.upd H d (.dT [])):=ai.upd hd
  refine⟨_,rfl,lp,rfl,⟨_,bI.of (s1 _ _ QU)⟩,?_⟩
  refine oH (K:=K) (a:=lp) (xs:=ps.map V.ref) (λa σ H2=>∃v5 kvs,σ=[some (.str f),some (.str s),some (.ref lp),some (.str m),some (.ref d),v5]/\ai H H2/\H2 d=some (.dT kvs)/\kvs.length<=a/\∀q∈(placesOf f.cps.size s.cps.size).take a,lU kvs [.inl (q.1:Int),.inl (q.2:Int)]=some (.bl (AY m f s (q.1,q.2))))
   ⟨_,[],rfl,s1,ah,Nat.le_refl _,λq hq=>by rw[List.take_zero]at hq;exact nomatch hq⟩ (λa σ H2 _ ⟨_,_,_,s2,_⟩=>bI.of (s2 _ _ QU)) ?_ ?_
  ·rintro a y σ H2 hy ⟨v5,kvs,rfl,s2,hd2,hk2,hst⟩
   obtain⟨pl,hpl,rfl⟩:=kL hy
   obtain⟨q,hq,hpq⟩:=GP.Paired.at pp hpl
   have hal:=(List.getElem?_eq_some_iff.mp hq).1
   rw[places_len]at hal
   refine⟨_,rfl,_,rfl,_,rfl,_,rfl,m,f,s,pl,((q.1:Int),(q.2:Int)),rfl,dR.of (s2 _ _ hpq),by omega,by omega,?_⟩
   refine⟨_,rfl,_,rfl,d,_,rfl,HQ.t (k:=[.inl (q.1:Int),.inl (q.2:Int)]) hd2 (s2 _ _ hpq) (G7 hf hs (by omega)),?_⟩
   refine⟨_,_,rfl,ai.at s2 hd,ah,Nat.le_trans (nO _ _ _) (Nat.succ_le_succ hk2),λr hr=>?_⟩
   rw[take_snoc hq]at hr
   rw[BX]
   by_cases e:r=q
   ·rw[if_pos (by rw[e]),e]
   ·rw[if_neg (λz=>e ?_)]
    ·rcases List.mem_append.mp hr with hr|hr
     ·exact hst r hr
     ·exact absurd (List.mem_singleton.mp hr) e
    ·have z1:=(List.cons.inj z).1
     have z2:=(List.cons.inj (List.cons.inj z).2).1
     have e1:(r.1:Int)=q.1:=Sum.inl.inj z1
     have e2:(r.2:Int)=q.2:=Sum.inl.inj z2
     exact Prod.ext (by omega) (by omega)
  ·rintro σ H2 ⟨v5,kvs,rfl,s2,hd2,hk2,hst⟩
   refine⟨_,rfl,kk d kvs H2 s2 hd hd2 λT1 i j hi hj=>?_⟩
   rw[List.length_map,Paired.len pp,List.take_length]at hst
   exact hst (i,j) (dO.mpr ⟨hi,hj⟩)
theorem rT {aQ i6 gB ja jK jC kT:Addr} {bP gZ fD g8 iW iO jB:FuncData} {p:Pm} (T:Txt K mg p base) (bM:Dm K "__init__" "Ground.__init__" bL MV aQ bP) (fT:Dn K mg "check_rows" mq Sh i6 gZ) (BK:aI P w K mg base (vz P w) 4 i6 gZ Sh (Fz K p.au p.aB)) (dB:Dn K mg "check_manner" j0 ["manner"] gB fD) (yl:aI P w K mg base (vz P w) 1 gB fD ["manner"] (pP p.aG)) (fV:Dn K mg "all_places" mD Sd ja g8) (BN:aI P w K mg base b8 1 ja g8 Sd MI) (gM:Dn K mg "all_steps" nL Sa jK iW) (DT:aI P w K mg base b8 5 jK iW Sa (IQ P w K p.au)) (gE:Dn K mg "may_begin" nB Sf jC iO) (DN:aI P w K mg base b8 1 jC iO Sf (IK K)) (iL:Dn K mg "all_ends" oU R9 kT jB) (Ff:aI P w K mg base b8 2 kT jB R9 FH):aI P w K mg base (vz P w) 6 aQ bP MV (wO P w K p.au p.aK p.aB p.aG):=by
 refine bM.fn.Pb mR (λvs H Q E h=>?_) (λcdv A outer s H vs Q E hr h=>?_)
 ·obtain⟨x,dx,pr,T1,f,s,m,rfl,_⟩:=h
  rfl
 ·obtain⟨x,dx,pr,T1,f,s,m,rfl,hx,hP,hf,hs,kk,kS,kM⟩:=h
  refine⟨_,(aj (dF (az BK (hr.mono (by decide)) rfl fT.m fT.fn.kp fT.b .nil (Lets.passes oZ) (aa (pv 1) (aa (eX (aa (pv 2) (aa (pv 3) af))) af))))
   (aj (dF (az yl (hr.mono (by decide)) rfl dB.m dB.fn.kp dB.b .nil (Lets.passes oZ) (aa (pv 4) af)))
   (aj (aD (i:=5) mR.nd rfl (Or.inl rfl) (az BN (hr.mono (by decide)) rfl fV.m fV.fn.kp fV.b .nil aN (aa (pv 2) (aa (pv 3) af))))
   (aj (lR (pv 0) (az DT (hr.mono (by decide)) rfl gM.m gM.fn.kp gM.b .nil aN (aa (pv 1) (aa (pv 2) (aa (pv 3) (aa (pv 5) af))))) rfl)
   (aj (lR (pv 0) (oE (N:=["place","manner"]) rfl (cG.rm (nt:=1) (ix:=[4]) rfl (by decide +kernel) (by decide +kernel) (by kernel_rfl) rfl (by kernel_rfl)) (jn (pv 5)) (λ_ _ _ _ _ _ _=>(aM (i:=0) (show(["place","manner"]:List Str).Nodup by decide +kernel) rfl (Or.inl rfl))) (λ_ _ _ _ _ _ _=>(pv 0)) (λ_ _ _ _ _ _ _=>(iG (az DN (hr.mono (by decide)) rfl gE.m gE.fn.kp gE.b .nil aN (aa (pv 1) (aa (pv 0) af)))))) rfl)
   (aq (lR (pv 0) (az Ff (hr.mono (by decide)) rfl iL.m iL.fn.kp iL.b .nil aN (aa (pv 2) (aa (pv 3) (aa (pv 5) (aa (pv 4) af))))) rfl))))))),?_⟩
  refine⟨_,rfl,_,rfl,_,rfl,by show 2<=sizeLine;decide,λl hl=>?_⟩
  refine⟨pr,l,T1.1,T1.2.1,T1.2.2.1,T1.2.2.2,f,s,rfl,hP.same (ai.upd hl),ah,by omega,by omega,λof os H1 s1=>?_,λi j bad dx H1 s1 hd=>kS i j bad dx H1 ((ai.upd hl).trans s1) hd⟩
  have QH:=(ai.upd (o:=.lst [.str f,.str s]) hl).trans s1
  refine⟨_,rfl,m,rfl,λhm=>?_,λhm=>⟨(kM of os hm).1,(kM of os hm).2 H1 QH⟩⟩
  obtain⟨vP,vO,kk⟩:=kk of os hm
  refine⟨_,rfl,_,rfl,f,s,rfl,vP,vO,λlp H2 s2 QU hpl=>?_⟩
  have IT:=QH.trans s2
  refine⟨_,rfl,_,rfl,_,rfl,_,rfl,pr,lp,T1,f,s,rfl,hP.same IT,of,os,vP,vO,hpl,λd kvs H3 s3 hd hnd hst=>?_⟩
  have KR:=IT.trans s3
  have ZE:=KR _ _ hx
  refine⟨_,rfl,x,_,dx,[],rfl,ZE,T.fH,T.gk,by show 0<1000;decide,?_⟩
  have d3:=Dat.set (fs':=aF "steps" (.ref d) []) ZE
  have SJ:=(hpl.same s3).da.same (sF.dat d3)
  obtain⟨ps,hps,pp⟩:=id SJ
  have hlen:=Paired.len pp
  rw[places_len]at hlen
  refine⟨_,rfl,lp,rfl,⟨_,bI.of hps⟩,λlB hlB=>?_⟩
  have at_:∀i,i<ps.length->ps[i]? =some (ps.getD i 0)/\Gy (L2.upd H3 x (.ins p.aK dx (aF "steps" (.ref d) []))) (ps.getD i 0) ((placesOf f.cps.size s.cps.size).getD i (0,0)):=λi hi=>by
   have e:ps[i]? =some (ps.getD i 0):=by rw[List.getD_eq_getElem?_getD,List.getElem?_eq_getElem hi];rfl
   obtain⟨q,hq,hpq⟩:=GP.Paired.at pp e
   refine⟨e,?_⟩
   rw[List.getD_eq_getElem?_getD (l:=placesOf _ _),hq]
   exact hpq
  refine tN ps.length (λi=>vK m (((placesOf f.cps.size s.cps.size).getD i (0,0)).1,((placesOf f.cps.size s.cps.size).getD i (0,0)).2)) (λi=>.ref (ps.getD i 0)) hlB (G7 vP vO (by omega)) (λi H4 s4 hi=>?_) (λH4 s4=>?_) (λi y H4 H5 R S s4 hi hy hR hS=>?_) λH4 s4 M7=>?_
  ·exact⟨_,_,bI.of (s4 _ _ hps),by rw[List.getElem?_map,(at_ i hi).1];rfl⟩
  ·exact⟨_,bI.of (s4 _ _ hps),by rw[List.length_map];exact Nat.le_refl _⟩
  ·obtain⟨rfl,hy⟩:=hy
   have ey:=hy _ (bI.of (s4 _ _ hps))
   rw[List.getElem?_map,(at_ i hi).1]at ey
   cases ey
   refine⟨Kp.An,_,rfl,_,rfl,m,_,((((placesOf f.cps.size s.cps.size).getD i (0,0)).1:Int),(((placesOf f.cps.size s.cps.size).getD i (0,0)).2:Int)),rfl,dR.of (s4 _ _ (at_ i hi).2),_,rfl,?_⟩
   cases z:vK m (((placesOf f.cps.size s.cps.size).getD i (0,0)).1,((placesOf f.cps.size s.cps.size).getD i (0,0)).2)with
   |true=>exact ng ⟨_,rfl,hR z _ (ai.refl _)⟩
   |false=>exact jr (hS z _ (ai.refl _))
  have SE:=s4 _ _ (ah (H:=H3) (a:=x) (o:=.ins p.aK dx (aF "steps" (.ref d) [])))
  refine⟨_,rfl,x,_,dx,_,rfl,SE,T.fH,T.lS,by show 1<1000;decide,?_⟩
  have d4:=Dat.set (fs':=aF "begins" (.ref lB) (aF "steps" (.ref d) [])) SE
  have XF:Ia H4 lp (placesOf f.cps.size s.cps.size):=SJ.same s4
  have XE:=XF.da.same (sF.dat d4)
  refine⟨_,rfl,_,rfl,_,rfl,_,rfl,lp,f,s,m,rfl,vP,vO,XE,λdE kE H6 s6 hdE hE6 hE=>?_⟩
  have M0:=s6 _ _ (ah (H:=H4) (a:=x) (o:=.ins p.aK dx (aF "begins" (.ref lB) (aF "steps" (.ref d) []))))
  refine⟨_,rfl,x,_,dx,_,rfl,M0,T.fH,T.nZ,by show 2<1000;decide,?_⟩
  have d6:=Dat.set (fs':=aF "ends" (.ref dE) (aF "begins" (.ref lB) (aF "steps" (.ref d) []))) M0
  have dd:Dat H3 (L2.upd H6 x (.ins p.aK dx (aF "ends" (.ref dE) (aF "begins" (.ref lB) (aF "steps" (.ref d) []))))):=(((d3.trans (Dat.of s4)).trans d4).trans (Dat.of s6)).trans d6
  have de:Dat H4 (L2.upd H6 x (.ins p.aK dx (aF "ends" (.ref dE) (aF "begins" (.ref lB) (aF "steps" (.ref d) []))))):=(d4.trans (Dat.of s6)).trans d6
  refine kk _ (λb u nb hb=>?_) ⟨dx,d,lB,dE,kvs,kE,ah,ND.dat hnd dd,(hst m).da.same (sF.dat dd),?_,d6 _ _ (λ_ _ _ z=>by cases z) hE6,hE T1⟩
  ·rw[ao nb]
   refine s6 _ _ ?_
   rw[ao nb]
   refine s4 _ _ ?_
   rw[ao nb]
   exact KR _ _ hb
  ·refine⟨((List.range ps.length).filter λi=>vK m (((placesOf f.cps.size s.cps.size).getD i (0,0)).1,((placesOf f.cps.size s.cps.size).getD i (0,0)).2)).map λi=>ps.getD i 0,?_,?_⟩
   ·rw[List.map_map]
    exact de _ _ (λ_ _ _ z=>by cases z) M7
   ·unfold cI
    rw[←Bc (placesOf f.cps.size s.cps.size) (0,0),places_len,←hlen]
    refine uY λi hi=>?_
    have hi':=List.mem_range.mp (List.mem_filter.mp hi).1
    exact de _ _ (λ_ _ _ z=>by cases z) (s4 _ _ (at_ i hi').2)
end
section
variable{P:Program}{w:World}{K:PySem.W.Frag}{mg:Str->Option Value}{base:Heap}
theorem xm {c9:Addr} {cL:FuncData} {p:Pm} (T:Txt K mg p base) (bK:Dn K mg "least_rests" je Pz c9 cL)  :aI P w K mg base b8 1 c9 cL Pz (Ed P w p.aK):=by
 refine bK.fn.ok jR (λvs H Q E h=>?_) (λcdv A outer s H vs Q E hr h=>?_)
 ·obtain⟨x,g,bs,rfl,_⟩:=h
  rfl
 ·obtain⟨x,g,bs,rfl,hG,ok,hn,hm,kk⟩:=h
  obtain⟨dx,dS,lB,dE,kS,kE,hx,hS,hst,hB,hE,QX⟩:=id hG
  have hN:kS.length=g.states.length:=Paired.len hst
  have hN3:g.states.length=3*((g.n+1)*(g.m+1)):=by unfold Gd.states;rw[rJ,places_len]
  refine⟨_,(aj (aD (i:=1) jR.nd rfl (Or.inr rfl) (AD (Pr:=P) (wo:=w) rfl rfl))
   (aj (eW PassesOwn.never rfl (Jb rfl T.wm (aa (kI (tQ (Pr:=P) (wo:=w) rfl rfl rfl) rfl T.uf qO (aa (cW (pv 0) rfl) af)) af)) (aM (i:=2) jR.nd rfl (Or.inl rfl)) (aj (xg (i:=3) (N:=Xb) jR.nd rfl (Or.inl rfl) rfl (cG.rm (nt:=2) (ix:=[1]) rfl (by decide +kernel) (by decide +kernel) (by kernel_rfl) rfl (by kernel_rfl)) (jn (jo (Pr:=P) (wo:=w) (jt hr) (cW (pv 0) rfl) (pv 2) (λ_ _=>rfl) rfl rfl)) (λ_ _ _ _ _ _ _=>(AA (K':=K) (n:=2) rfl rfl (bS (aM (i:=0) (show(Xb:List Str).Nodup by decide +kernel) rfl (Or.inl rfl)) (bS (aM (i:=1) (show(Xb:List Str).Nodup by decide +kernel) rfl (Or.inl rfl)) lD)))) (λ_ _ _ _ _ _ _=>(aE dM (pv 1) (jo (Pr:=P) (wo:=w) (jt hr) (pv 2) (pv 0) (λ_ _=>rfl) rfl rfl))))
   (bJ (bO (iG (AF (Dd hr) (cW (pv 0) rfl) (aW cX (pv 2) ak (λ_ _=>rfl)) (λ_ _=>rfl))) (aq (dF (mU PySem.F.plainAttrs_list PySem.F.slot_list_append PySem.F.type_list_append fu (pv 3) (aa ak af)))) aS)
   (aq (Av (Pr:=P) (wo:=w) (jt hr) (pv 1) (pv 2) (aC (zS rfl) rfl T.Fp Bp (aa (pv 3) af)) rfl rfl rfl)))))
   (aq (aL (pv 1))))),?_⟩
  refine λd hd=>?_
  have s1:ai H (L2.upd H d (AV P w d [])):=ai.upd hd
  refine⟨_,rfl,x,_,dx,_,_,rfl,s1 _ _ hx,T.fH,T.gk,oG,dS,kS,rfl,ND.same hS s1,λl hl=>?_⟩
  have s2:=s1.trans (ai.upd (o:=.lst (kS.map λe=>.ref e.2.1)) hl)
  have RQ:l≠d:=λz=>by rw[z,ah]at hl;cases hl
  refine⟨l,_,rfl,bI.of ah,?_⟩
  refine Gj (K:=K) (a:=l) (xs:=kS.map λe=>V.ref e.2.1) (λk σ H2=>∃v2 v3 kvs,σ=[some (.ref x),some (.ref d),v2,v3]/\ai H H2/\H2 l=some (.lst (kS.map λe=>V.ref e.2.1))/\H2 d=some (AV P w d kvs)/\kvs.length<=k/\(∀e∈kvs,jj (Wo d H2) e.2.1 e.1)/\∀s∈g.states.drop (g.states.length-k),jN kvs (f6 s)=some (.int (g.rest s)))
   ⟨_,_,[],rfl,s2,ah,by rw[ao (Ne.symm RQ),ah],Nat.le_refl _,(λe he=>nomatch he),λs hs=>by rw[Nat.sub_zero,List.drop_length]at hs;exact nomatch hs⟩ (λk σ H2 _ ⟨_,_,_,_,_,h2,_⟩=>bI.of h2) ?_ ?_
  ·rintro k y σ H2 hk hy ⟨v2,v3,kvs,rfl,s2,hl2,hd2,hlen,hkey,hval⟩
   rw[List.length_map,hN]at hk
   rw[List.length_map,hN]at hy
   obtain⟨e,he,rfl⟩:=kL hy
   obtain⟨s,hs,X5,l',hel,hsl⟩:=GP.Paired.at hst he
   have hin:=Gd.dN.mp (List.mem_of_getElem? hs)
   have hke:jj H e.2.1 (f6 s):=by rw[←X5];exact hS.keys e (List.mem_of_getElem? he)
   obtain⟨l'',SQ,JK⟩:=wj hst (Gd.dN.mpr hin)
   obtain⟨ps,hps,pp⟩:=JK
   have hpl:=Paired.len pp
   refine⟨_,rfl,x,_,dx,_,_,rfl,s2 _ _ hx,T.fH,T.gk,oG,_,rfl,dS,kS,f6 s,e.2.1,.ref l'',rfl,rfl,ND.same hS s2,jj.same hke s2,SQ,l'',rfl,⟨_,bI.of (s2 _ _ hps)⟩,λlc Mc=>?_⟩
   have Xw:(g.steps s).length<=3:=by unfold Gd.steps;split<;>split<;>split<;>simp
   refine Bh ps.length (λi=>.int (g.key ((g.steps s).getD i (s,0)))) Mc (Nat.lt_of_le_of_lt (show ps.length<=3 by omega) (by decide)) (λi H3 s3 hi=>?_) (λH3 s3=>?_) (λi y H3 H4 R s3 hi hy hR=>?_) λH3 s3 hl3=>?_
   ·exact⟨_,_,bI.of (s3 _ _ (s2 _ _ hps)),by rw[List.getElem?_map,List.getElem?_eq_getElem hi];rfl⟩
   ·exact⟨_,bI.of (s3 _ _ (s2 _ _ hps)),by rw[List.length_map];exact Nat.le_refl _⟩
   ·obtain⟨rfl,hy⟩:=hy
    have ey:=hy _ (bI.of (s3 _ _ (s2 _ _ hps)))
    rw[List.getElem?_map,List.getElem?_eq_getElem hi]at ey
    cases ey
    obtain⟨t,ht,q,hq1,hq2⟩:=GP.Paired.at pp (List.getElem?_eq_getElem hi)
    have et:(g.steps s).getD i (s,0)=t:=by rw[List.getD_eq_getElem?_getD,ht];rfl
    rw[et]at hR
    have hb:=Gd.uU hs (List.mem_of_getElem? ht)
    rw[show g.states.length-1-k+1=g.states.length-k by omega]at hb
    refine⟨_,_,rfl,dR.of (s3 _ _ (s2 _ _ hq1)),rfl,_,_,rfl,_,_,rfl,rfl,Kp2,?_⟩
    exact⟨_,rfl,_,rfl,_,rfl,d,kvs,f6 t.1,q,_,rfl,rfl,⟨s3 _ _ hd2,λe he=>jj.same (jj.same (hkey e he) Wo.sub) s3⟩,jj.same (jj.same hq2 s2) s3,hval t.1 hb,_,_,rfl,rfl,hR _ (ai.refl _)⟩
   have hls:(List.range ps.length).map (λi=>V.int (g.key ((g.steps s).getD i (s,0))))=((g.steps s).map g.key).map V.int:=by
    rw[List.map_map,hpl]
    refine List.ext_getElem (by simp) λi h1 h2=>?_
    simp only[List.getElem_map,List.getElem_range,Function.comp_apply]
    rw[List.getD_eq_getElem?_getD,List.getElem?_eq_getElem (by simpa using h2)]
    rfl
   rw[hls]at hl3
   have KR:=s2.trans s3
   have hcn:H2 lc=none:=Mc
   have ncd:lc≠d:=λz=>by rw[z,hd2]at hcn;cases hcn
   have ncl:lc≠l:=λz=>by rw[z,hl2]at hcn;cases hcn
   obtain⟨pk,hk1,hk2⟩:=hke
   refine⟨λσ H'=>σ=[some (.ref x),some (.ref d),some (.ref e.2.1),some (.ref lc)]/\ai H2 H'/\H' lc=some (.lst ((g.costs g.rest s).map V.int)),?_,?_⟩
   ·refine⟨_,rfl,x,_,dx,_,_,rfl,KR _ _ hx,T.fH,T.nZ,De,_,rfl,e.2.1,_,_,_,rfl,rfl,dR.of (KR _ _ hk1),rfl,dE,.bl (g.en s.1 s.2.1),rfl,?_,_,rfl,?_⟩
    ·rw[←QX s.1 s.2.1 hin.1 hin.2.1]
     exact DV.t (KR _ _ hE) (KR _ _ hk2)
    ·unfold Gd.costs
     cases z:g.en s.1 s.2.1 with
     |true =>
      refine ng ⟨_,rfl,.inl ⟨rfl,_,bI.of hl3⟩,lc,_,_,rfl,rfl,hl3,by rw[List.length_map,List.length_map];exact Nat.lt_of_le_of_lt Xw (by decide),rfl,ai.at s3 hcn,?_⟩
      rw[ah,if_pos rfl,List.map_append]
      rfl
     |false=>exact jr ⟨rfl,s3,by rw[if_neg Bool.false_ne_true,List.append_nil];exact hl3⟩
   rintro σ H4 ⟨rfl,s4,M7⟩
   refine⟨_,rfl,lc,_,rfl,bI.of M7,Gd.Du ok hin,_,rfl,_,rfl,d,kvs,f6 s,e.2.1,rfl,rfl,⟨s4 _ _ hd2,λe he=>jj.same (jj.same (hkey e he) Wo.sub) s4⟩,⟨pk,s4 _ _ (s2 _ _ hk1),s4 _ _ (s2 _ _ hk2)⟩,G7 hn hm (by omega),?_⟩
   rw[←g.rest_eq]
   have sw:ai (Wo d H2) (Wo d (L2.upd H4 d (AV P w d (rU kvs (f6 s) e.2.1 (.int (g.rest s)))))):=λb u h=>Wo.in (Wo.ne h) (by rw[ao (Wo.ne h)];exact s4 _ _ (Wo.sub b u h))
   have Ph:∀{b:Addr} {xs:List V},H2 b=some (.tup xs)->b≠d:=λ{b xs} h z=>by rw[z,hd2]at h;cases h
   refine⟨_,_,_,rfl,ai.at (s2.trans s4) hd,by rw[ao RQ];exact s4 _ _ hl2,ah,Nat.le_trans (xB _ _ _ _) (Nat.succ_le_succ hlen),zF (λe he=>jj.same (hkey e he) sw) (jj.same ⟨pk,Wo.in (Ph (s2 _ _ hk1)) (s2 _ _ hk1),Wo.in (Ph (s2 _ _ hk2)) (s2 _ _ hk2)⟩ sw),λr hr=>?_⟩
   rw[CP]
   rw[show g.states.length-(k+1)=g.states.length-1-k by omega,List.drop_eq_getElem_cons (by omega)]at hr
   rw[(List.getElem?_eq_some_iff.mp hs).2]at hr
   by_cases er:f6 r=f6 s
   ·rw[if_pos er,sR er]
   ·rw[if_neg er]
    rcases List.mem_cons.mp hr with hr|hr
    ·exact absurd (by rw[hr]) er
    ·exact hval r (by rw[show g.states.length-k=g.states.length-1-k+1 by omega];exact hr)
  ·rintro σ H2 ⟨v2,v3,kvs,rfl,s2,hl2,hd2,hlen,hkey,hval⟩
   rw[List.length_map,hN,Nat.sub_self,List.drop_zero]at hval
   exact⟨_,rfl,kk d kvs H2 s2 hd ⟨hd2,λe he=>jj.same (hkey e he) Wo.sub⟩ λs hs=>hval s (Gd.dN.mpr hs)⟩
theorem yE {dZ:Addr} {c8:FuncData} {p:Pm} (T:Txt K mg p base) (bR:Dn K mg "ends_there" jZ l6 dZ c8)  :aI P w K mg base b8 1 dZ c8 l6 (Aj P w p.aK):=by
 refine bR.fn.ok yt (λvs H Q E h=>?_) (λcdv A outer s H vs Q E hr h=>?_)
 ·obtain⟨x,d,q,g,bs,kvs,s,rfl,_⟩:=h
  rfl
 ·obtain⟨x,d,q,g,bs,kvs,s,rfl,⟨hG,hd,hR⟩,hq,hin,kk⟩:=h
  obtain⟨dx,dS,lB,dE,kS,kE,hx,hS,hst,hB,hE,QX⟩:=id hG
  obtain⟨pk,hk1,hk2⟩:=id hq
  refine⟨_,(aq (aL (j4 (AF (Dd hr) (cW (pv 0) rfl) (aW cX (pv 2) ak (λ_ _=>rfl)) (λ_ _=>rfl)) (j3 (cC cH (jo (Pr:=P) (wo:=w) (jt hr) (pv 1) (pv 2) (λ_ _=>rfl) rfl rfl) ak (aO _)))))),?_⟩
  refine⟨_,rfl,x,_,dx,_,_,rfl,hx,T.fH,T.nZ,De,_,rfl,q,_,_,_,rfl,rfl,dR.of hk1,rfl,dE,.bl (g.en s.1 s.2.1),rfl,?_,_,rfl,?_⟩
  ·rw[←QX s.1 s.2.1 hin.1 hin.2.1]
   exact DV.t hE hk2
  ·unfold Gd.stop at kk
   cases z:g.en s.1 s.2.1 with
   |true =>
    rw[z,Bool.true_and]at kk
    refine ng ⟨_,rfl,_,rfl,d,kvs,f6 s,q,_,rfl,rfl,hd,hq,hR s hin,rfl,?_⟩
    rw[kg]
    exact kk
   |false =>
    rw[z,Bool.false_and]at kk
    exact jr kk
theorem xy {dh:Addr} {cM:FuncData} {p:Pm} (T:Txt K mg p base) (bF:Dn K mg "first_begin" jf l7 dh cM)  :aI P w K mg base b8 1 dh cM l7 (wQ P w p.aK (ue K)):=by
 refine bF.fn.Zj T.xK (T.xJ _ bF.m) wX (λvs H Q E h=>?_) (λcdv A outer s H vs Q E hC hr h=>?_)
 ·obtain⟨x,d,g,bs,kvs,rfl,_⟩:=h
  rfl
 ·obtain⟨x,d,g,bs,kvs,rfl,⟨hG,hd,hR⟩,hT,hne,hbs,kk⟩:=h
  obtain⟨dx,dS,lB,dE,kS,kE,hx,hS,hst,⟨ps,hps,pp⟩,hE,QX⟩:=id hG
  have hlen:=Paired.len pp
  have at_:∀(i:Nat) (v:V),(ps.map V.ref)[i]? =some v->∃pl b,v= .ref pl/\bs[i]? =some b/\Gy H pl b:=λi v hv=>by
   obtain⟨pl,hpl,rfl⟩:=kL hv
   obtain⟨b,hb,Hl⟩:=GP.Paired.at pp hpl
   exact⟨pl,b,rfl,hb,Hl⟩
  refine⟨_,(aq (aL (FZ (Pr:=P) (wo:=w) (P:=eY K "first_begin") (ir:=1) (LR ⟨λ_ _ _ _ _ _=>rfl,rfl,rfl,by decide +kernel,rfl,rfl,rfl,by decide,by decide,by decide⟩) LV rfl rfl hC T.bm rfl (FO hr) (Gg hr) rfl T.Fp Bp rfl rfl (aa (cW (pv 0) rfl) af) rfl rfl rfl))),?_⟩
  refine⟨_,rfl,x,_,dx,_,_,rfl,hx,T.fH,T.lS,xR,lB,_,.ref d,λi=>g.kG (bs.getD i (0,0)),rfl,rfl,bI.of hps,?_,λi v hv=>?_,hT.a,λH2 ap e t i v hv hL=>?_⟩
  ·rw[List.length_map,hlen]
   exact List.length_pos_iff.mpr hne
  ·obtain⟨pl,b,rfl,hb,Hl⟩:=at_ i v hv
   have hb':=hbs b (List.mem_of_getElem? hb)
   refine⟨pl,d,kvs,b.1,b.2,rfl,Hl,rfl,hd,?_⟩
   have z:=hR (b.1,b.2,112) ⟨hb'.1,hb'.2,.inl rfl⟩
   have e:bs.getD i (0,0)=b:=by rw[List.getD_eq_getElem?_getD,hb];rfl
   dsimp only
   rw[e,sP]
   exact z
  ·obtain⟨pl,b,rfl,hb,Hl⟩:=at_ i v hv
   have lo:=Lo.one (P:=P) (w:=w) (L:=ue K) hT ap e t
   refine kk pl b H2 lo (A9 hb λj y hy=>?_) (lo.tup Hl)
   have z:=hL j (by rw[List.length_map,hlen];exact(List.getElem?_eq_some_iff.mp hy).1)
   dsimp only at z
   rw[List.getD_eq_getElem?_getD,List.getD_eq_getElem?_getD,hb,hy]at z
   exact z
theorem vF {gz:Addr} {fB:FuncData} {p:Pm} (T:Txt K mg p base) (cP:Dn K mg "state_behind" jW l6 gz fB)  :aI P w K mg base b8 1 gz fB l6 (IP P w p.aK (ue K)):=by
 refine cP.fn.Zj T.vM (T.vL _ cP.m) vA (λvs H Q E h=>?_) (λcdv A outer s H vs Q E hC hr h=>?_)
 ·obtain⟨x,d,q,g,bs,kvs,s,rfl,_⟩:=h
  rfl
 ·obtain⟨x,d,q,g,bs,kvs,s,rfl,⟨hG,hd,hR⟩,hq,hin,hne,hT,kk⟩:=h
  obtain⟨dx,dS,lB,dE,kS,kE,hx,hS,hst,hB,hE,QX⟩:=id hG
  obtain⟨l,SQ,ps,hps,pp⟩:=wj hst (Gd.dN.mpr hin)
  have hlen:=Paired.len pp
  have at_:∀(i:Nat) (v:V),(ps.map V.ref)[i]? =some v->∃pl t,v= .ref pl/\(g.steps s)[i]? =some t/\Mw H pl t:=λi v hv=>by
   obtain⟨pl,hpl,rfl⟩:=kL hv
   obtain⟨b,hb,Hl⟩:=GP.Paired.at pp hpl
   exact⟨pl,b,rfl,hb,Hl⟩
  refine⟨_,(aq (aL (aW cX (FZ (Pr:=P) (wo:=w) (P:=eY K "state_behind") (ir:=1) (LQ ⟨λ_ _ _ _ _ _=>rfl,rfl,rfl,by decide +kernel,rfl,rfl,rfl,by decide,by decide,by decide⟩) LU rfl rfl hC T.bm rfl (FO hr) (Gg hr) rfl T.Fp Bp rfl rfl (aa (jo (Pr:=P) (wo:=w) (jt hr) (cW (pv 0) rfl) (pv 2) (λ_ _=>rfl) rfl rfl) af) rfl rfl rfl) ak (λ_ _=>rfl)))),?_⟩
  refine⟨_,rfl,x,_,dx,_,_,rfl,hx,T.fH,T.gk,oG,_,rfl,dS,kS,f6 s,q,.ref l,rfl,rfl,hS,hq,SQ,l,_,.ref d,λi=>g.key ((g.steps s).getD i (s,0)),rfl,rfl,bI.of hps,?_,λi v hv=>?_,hT.b,λH2 ap e t i v hv hL=>?_⟩
  ·rw[List.length_map,hlen]
   exact List.length_pos_iff.mpr hne
  ·obtain⟨pl,t,rfl,ht,q',h1,h2⟩:=at_ i v hv
   refine⟨pl,d,q',kvs,f6 t.1,t.2,g.rest t.1,rfl,h1,h2,rfl,hd,hR t.1 (Gd.nu (List.mem_of_getElem? ht) hin),?_⟩
   show g.key _=_
   rw[List.getD_eq_getElem?_getD,ht]
   rfl
  ·obtain⟨pl,u,rfl,hu,q',h1,h2⟩:=at_ i v hv
   have lo:=Lo.two (P:=P) (w:=w) (L:=ue K) hT ap e t
   refine⟨pl,_,_,_,rfl,rfl,dR.of (lo.tup h1),rfl,kk q' u H2 lo (A9 hu λj y hy=>?_) (lo.Zz h2)⟩
   have z:=hL j (by rw[List.length_map,hlen];exact(List.getElem?_eq_some_iff.mp hy).1)
   dsimp only at z
   rw[List.getD_eq_getElem?_getD,List.getD_eq_getElem?_getD,hu,hy]at z
   exact z
theorem xx {ig dZ gz:Addr} {gu c8 fB:FuncData} {p:Pm} (T:Txt K mg p base) (eF:Dn K mg "first_moves" ly R8 ig gu) (bR:Dn K mg "ends_there" jZ l6 dZ c8) (pD:aI P w K mg base b8 1 dZ c8 l6 (Aj P w p.aK)) (cP:Dn K mg "state_behind" jW l6 gz fB) (yj:aI P w K mg base b8 1 gz fB l6 (IP P w p.aK (ue K))):aI P w K mg base b8 2 ig gu R8 (II P w p.aK (ue K)):=by
 refine eF.fn.ok jU (λvs H Q E h=>?_) (λcdv A outer s H vs Q E hr h=>?_)
 ·obtain⟨x,d,pl,g,bs,kvs,b,rfl,_⟩:=h
  rfl
 ·obtain⟨x,d,pl,g,bs,kvs,b,rfl,hG,hb,hin,ok,hn,hm,hT,kk⟩:=h
  refine⟨_,(aj (aD (i:=3) jU.nd rfl (Or.inl rfl) (bG (aa (pv 2) (aa bB af))))
   (aj (aD (i:=4) jU.nd rfl (Or.inl rfl) (eX af))
   (aj (Cy PassesOwn.never (w9 (iG (az pD (hr.mono (by decide)) rfl bR.m bR.fn.kp bR.b .nil aN (aa (pv 0) (aa (pv 1) (aa (pv 3) af)))))) (aj (aD (i:=3) jU.nd rfl (Or.inl rfl) (az yj (hr.mono (by decide)) rfl cP.m cP.fn.kp cP.b .nil aN (aa (pv 0) (aa (pv 1) (aa (pv 3) af)))))
   (aq (dF (mU PySem.F.plainAttrs_list PySem.F.slot_list_append PySem.F.type_list_append fu (pv 4) (aa (aW cX (pv 3) ak (λ_ _=>rfl)) af))))))
   (aq (aL (mU PySem.F.plainAttrs_str PySem.F.slot_str_join PySem.F.type_str_join F4 bB (aa (pv 4) af))))))),?_⟩
  refine⟨_,rfl,by show 2<=sizeLine;decide,λq hq=>⟨by show 0<=sizeLine;decide,λl hl=>?_⟩⟩
  have s1:ai H (L2.upd H q (.tup [.ref pl,.str (Str.ofString "p")])):=ai.upd hq
  have hln:H l=none:=ai.free s1 hl
  have Ul:q≠l:=λz=>by rw[z,ah]at hl;cases hl
  have k0:jj (L2.upd (L2.upd H q (.tup [.ref pl,.str (Str.ofString "p")])) l (.lst [])) q (f6 (b.1,b.2,112)):=by
   refine⟨pl,by rw[ao Ul,ah,sP];rfl,?_⟩
   exact ai.upd hl _ _ (s1 _ _ hb)
  refine⟨λn σ H'=>∃(q:Addr) (s:cE) (mv:List Nat),n=g.ht s/\σ=[some (.ref x),some (.ref d),some (.ref pl),some (.ref q),some (.ref l)]/\Lo P w (ue K) H H'/\jj H' q (f6 s)/\g.In s/\H' l=some (.lst (mv.map sg))/\g.moves (b.1,b.2,112)=mv++g.moves s/\mv.length+g.ht s<=g.n+g.m,
   ⟨_,q,(b.1,b.2,112),[],rfl,rfl,.of hT (s1.trans (ai.upd hl)),k0,hin,ah,rfl,by show 0+(g.n-b.1+(g.m-b.2))<=_;omega⟩,?_⟩
  rintro n σ H1 ⟨q,s,mv,rfl,rfl,lo,hk,hs,hl1,XJ,hle⟩
  refine⟨_,rfl,_,rfl,_,rfl,x,d,q,g,bs,kvs,s,rfl,lo.gR hG,hk,hs,_,rfl,?_⟩
  cases z:g.stop s with
  |true =>
   refine vf ⟨rfl,_,rfl,l,mv,rfl,rfl,bI.of hl1,by omega,?_⟩
   rw[Gd.xD z,List.append_nil]at XJ
   rw[←XJ]
   exact kk H1 lo
  |false =>
   obtain⟨t,hf,ht,hnx,_⟩:=g.go ok hs z
   refine Ga ⟨λσ' H'=>∃m',m'<g.ht s/\∃(q:Addr) (s:cE) (mv:List Nat),m'=g.ht s/\σ'=[some (.ref x),some (.ref d),some (.ref pl),some (.ref q),some (.ref l)]/\Lo P w (ue K) H H'/\jj H' q (f6 s)/\g.In s/\H' l=some (.lst (mv.map sg))/\g.moves (b.1,b.2,112)=mv++g.moves s/\mv.length+g.ht s<=g.n+g.m,λσ' H' h=>h,?_⟩
   refine⟨_,rfl,_,rfl,_,rfl,x,d,q,g,bs,kvs,s,rfl,lo.gR hG,hk,hs,List.ne_nil_of_mem ht,lo.lt,λq' t' H2 lo2 hf' hk'=>?_⟩
   obtain rfl:t=t':=Option.some.inj (hf.symm.trans hf')
   have hl2:=lo2.nx _ _ (Nt.lst hl1)
   obtain⟨pk,hk1,hk2⟩:=id hk'
   have hht:=Gd.jQ ht
   refine⟨_,rfl,.inl ⟨rfl,_,bI.of hl2⟩,_,rfl,q',_,_,_,rfl,rfl,dR.of hk1,rfl,l,_,_,rfl,rfl,hl2,by rw[List.length_map];exact Nat.lt_of_le_of_lt (show mv.length<=24 by omega) (by decide),g.ht t.1,hht,q',t.1,mv++[t.1.2.2],rfl,rfl,(lo.trans lo2).put hln hl2,LW hk' hl2,Gd.nu ht hs,by rw[ah,List.map_append];rfl,?_,?_⟩
   ·rw[XJ,Gd.CU ok hs z,hnx,List.append_assoc]
    rfl
   ·rw[List.length_append]
    show mv.length+1+_<=_
    omega
theorem CL {kR aQ c9 dh gP ig:Addr} {iJ bP cL cM fL gu:FuncData} {p:Pm} (T:Txt K mg p base) (iK:Dn K mg "cheapest" oS l8 kR iJ) (bM:Dm K "__init__" "Ground.__init__" bL MV aQ bP) (oO:Mk K p.aK aQ) (ku:aI P w K mg base (vz P w) 6 aQ bP MV (wO P w K p.au p.aK p.aB p.aG)) (bK:Dn K mg "least_rests" je Pz c9 cL) (oi:aI P w K mg base b8 1 c9 cL Pz (Ed P w p.aK)) (bF:Dn K mg "first_begin" jf l7 dh cM) (oj:aI P w K mg base b8 1 dh cM l7 (wQ P w p.aK (ue K))) (c5:Dn K mg "in_units" mS PB gP fL) (sC:aI P w K mg base b8 2 gP fL PB (ur K p.au)) (eF:Dn K mg "first_moves" ly R8 ig gu) (zd:aI P w K mg base b8 2 ig gu R8 (II P w p.aK (ue K))):aI P w K mg base (vz P w) 8 kR iJ l8 (FL P w K p.au p.aB p.aG (ue K)):=by
 refine iK.fn.Pb ny (λvs H Q E h=>?_) (λcdv A outer s H vs Q E hr h=>?_)
 ·obtain⟨pr,T1,f,s,m,rfl,_⟩:=h
  rfl
 ·obtain⟨pr,T1,f,s,m,rfl,hP,hT,hf,hs,kk,kS,kM⟩:=h
  refine⟨_,(aj (aD (i:=4) ny.nd rfl (Or.inl rfl) (AE oO ku (hr.mono (by decide)) rfl T.zH bM.b .nil (Lets.passes oZ) (aa (pv 0) (aa (pv 1) (aa (pv 2) (aa (pv 3) af))))))
   (aj (aD (i:=5) ny.nd rfl (Or.inl rfl) (az oi (hr.mono (by decide)) rfl bK.m bK.fn.kp bK.b .nil aN (aa (pv 4) af)))
   (aj (aD (i:=6) ny.nd rfl (Or.inl rfl) (az oj (hr.mono (by decide)) rfl bF.m bF.fn.kp bF.b .nil aN (aa (pv 4) (aa (pv 5) af))))
   (aq (aL (bG (aa (az sC (hr.mono (by decide)) rfl c5.m c5.fn.kp c5.b .nil aN (aa (pv 0) (aa (jo (Pr:=P) (wo:=w) (jt hr) (pv 5) (bG (aa (pv 6) (aa bB af))) (λ_ _=>rfl) rfl rfl) af))) (aa (pv 6) (aa (az zd (hr.mono (by decide)) rfl eF.m eF.fn.kp eF.b .nil aN (aa (pv 4) (aa (pv 5) (aa (pv 6) af)))) af))))))))),?_⟩
  refine⟨_,rfl,_,rfl,_,rfl,_,rfl,λx dx hx hdx Zn=>?_⟩
  have s1:ai H (L2.upd (L2.upd H dx (.own x)) x (.ins p.aK dx [])):=ai.at (ai.upd hdx) hx
  refine⟨x,dx,pr,T1,f,s,m,rfl,ah,hP.same s1,hf,hs,λof os hm=>?_,λi j bad dx H1 s2 hd=>kS i j bad dx H1 (s1.trans s2) hd,λof os hm=>⟨(kM of os hm).1,λH1 s2=>(kM of os hm).2 H1 (s1.trans s2)⟩⟩
  obtain⟨vP,vO,kk⟩:=kk of os hm
  refine⟨vP,vO,λH1 e1 hG=>⟨rfl,?_⟩⟩
  have QH:ai H H1:=λb u q=>e1 b u (aP q hx) (s1 b u q)
  have ok:=EU T1 m f s
  refine⟨_,rfl,x,_,_,rfl,hG,ok,vP,vO,λd kvs H2 s2 hd hnd hR=>?_⟩
  have IT:=QH.trans s2
  refine⟨_,rfl,_,rfl,x,d,_,_,kvs,rfl,⟨hG.same s2,hnd,hR⟩,hT.same IT,Br _ _ _,λb hb=>dO.mp (List.mem_filter.mp hb).1,λpb b H3 W3 hb Hl=>?_⟩
  have RW:=ai.lo IT hT W3
  have Z8:=W3.gR ⟨hG.same s2,hnd,hR⟩
  have hbi:(cK T1 m f s).In (b.1,b.2,112):=by
   have:=dO.mp (List.mem_filter.mp (m6 hb)).1
   exact⟨this.1,this.2,.inl rfl⟩
  refine⟨_,rfl,_,rfl,_,rfl,by show 2<=sizeLine;decide,λq hq=>?_⟩
  have s4:ai H3 (L2.upd H3 q (.tup [.ref pb,.str (Str.ofString "p")])):=ai.upd hq
  refine⟨d,kvs,f6 (b.1,b.2,112),q,_,rfl,rfl,ND.same Z8.2.1 s4,⟨pb,by rw[ah,sP];rfl,s4 _ _ Hl⟩,hR _ hbi,pr,_,T1.1,T1.2.1,T1.2.2.1,T1.2.2.2,rfl,(RW.pr hP).same s4,λc H5 s5 hc hc5=>?_⟩
  have RC:=s4.trans s5
  refine⟨_,rfl,_,rfl,_,rfl,_,rfl,x,d,pb,_,_,kvs,b,rfl,Z8.same RC,RC _ _ Hl,hbi,ok,vP,vO,W3.lt.same RC,λH6 WZ=>⟨by show 3<=sizeLine;decide,λr hr=>?_⟩⟩
  have RV:=(RW.then RC).trans WZ
  have s7:ai H6 (L2.upd H6 r _):=ai.upd (o:=.tup [.ref c,.ref pb,.str ⟨((cK T1 m f s).moves (b.1,b.2,112)).toArray⟩]) hr
  exact kk r _ (RV.then s7) (RV.dom r hr) ⟨b,c,pb,hb,ah,s7 _ _ (WZ.tup hc5),s7 _ _ (WZ.tup (RC _ _ Hl))⟩
end
section
variable{P:Program}{w:World}{K:PySem.W.Frag}{mg:Str->Option Value}{base:Heap}
theorem yI {jb dZ:Addr} {g9 c8:FuncData} {p:Pm} (T:Txt K mg p base) (fW:Dn K mg "all_counts" mE l7 jb g9) (bR:Dn K mg "ends_there" jZ l6 dZ c8) (pD:aI P w K mg base b8 1 dZ c8 l6 (Aj P w p.aK)):aI P w K mg base b8 2 jb g9 l7 (IM P w p.aK):=by
 refine fW.fn.ok fY (λvs H Q E h=>?_) (λcdv A outer s H vs Q E hr h=>?_)
 ·obtain⟨x,d,g,bs,kvs,rfl,_⟩:=h
  rfl
 ·obtain⟨x,dr,g,bs,kr,rfl,Z5,hn,hm,kk⟩:=h
  obtain⟨hG,hdr,hR⟩:=id Z5
  obtain⟨dx,dS,lB,dE,kS,kE,hx,hS,hst,hB,hE,QX⟩:=id hG
  have hN:kS.length=g.states.length:=Paired.len hst
  have hN3:g.states.length=3*((g.n+1)*(g.m+1)):=by unfold Gd.states;rw[rJ,places_len]
  refine⟨_,(aj (aD (i:=2) fY.nd rfl (Or.inl rfl) (AD (Pr:=P) (wo:=w) rfl rfl))
   (aj (eW PassesOwn.never rfl (Jb rfl T.wm (aa (kI (tQ (Pr:=P) (wo:=w) rfl rfl rfl) rfl T.uf qO (aa (cW (pv 0) rfl) af)) af)) (aM (i:=3) fY.nd rfl (Or.inl rfl)) (bJ (aD (i:=4) fY.nd rfl (Or.inl rfl) (oB (iG (az pD (hr.mono (by decide)) rfl bR.m bR.fn.kp bR.b .nil aN (aa (pv 0) (aa (pv 1) (aa (pv 3) af))))) ak ak))
   (aj (eW PassesOwn.never rfl (jn (jo (Pr:=P) (wo:=w) (jt hr) (cW (pv 0) rfl) (pv 3) (λ_ _=>rfl) rfl rfl)) (pX (n:=2) rfl (bS (aM (i:=5) fY.nd rfl (Or.inl rfl)) (bS (aM (i:=6) fY.nd rfl (Or.inl rfl)) lD))) (aq (bO (aR cH (aE dM (pv 6) (jo (Pr:=P) (wo:=w) (jt hr) (pv 1) (pv 5) (λ_ _=>rfl) rfl rfl)) (jo (Pr:=P) (wo:=w) (jt hr) (pv 1) (pv 3) (λ_ _=>rfl) rfl rfl) (aO _)) (aq (aD (i:=4) fY.nd rfl (Or.inl rfl) (aE dM (pv 4) (jo (Pr:=P) (wo:=w) (jt hr) (pv 2) (pv 5) (λ_ _=>rfl) rfl rfl)))) aS)))
   (aq (Av (Pr:=P) (wo:=w) (jt hr) (pv 2) (pv 3) (pv 4) rfl rfl rfl)))))
   (aq (aL (pv 2))))),?_⟩
  refine λd hd=>?_
  have s1:ai H (L2.upd H d (AV P w d [])):=ai.upd hd
  refine⟨_,rfl,x,_,dx,_,_,rfl,s1 _ _ hx,T.fH,T.gk,oG,dS,kS,rfl,ND.same hS s1,λl hl=>?_⟩
  have s2:=s1.trans (ai.upd (o:=.lst (kS.map λe=>.ref e.2.1)) hl)
  have RQ:l≠d:=λz=>by rw[z,ah]at hl;cases hl
  refine⟨l,_,rfl,bI.of ah,?_⟩
  refine Gj (K:=K) (a:=l) (xs:=kS.map λe=>V.ref e.2.1) (λk σ H2=>∃v3 v4 v5 v6 kvs,σ=[some (.ref x),some (.ref dr),some (.ref d),v3,v4,v5,v6]/\ai H H2/\H2 l=some (.lst (kS.map λe=>V.ref e.2.1))/\H2 d=some (AV P w d kvs)/\kvs.length<=k/\(∀e∈kvs,jj (Wo d H2) e.2.1 e.1)/\∀s∈g.states.drop (g.states.length-k),jN kvs (f6 s)=some (.int (g.cnt s:Int)))
   ⟨_,_,_,_,[],rfl,s2,ah,by rw[ao (Ne.symm RQ),ah],Nat.le_refl _,(λe he=>nomatch he),λs hs=>by rw[Nat.sub_zero,List.drop_length]at hs;exact nomatch hs⟩ (λk σ H2 _ ⟨_,_,_,_,_,_,_,h2,_⟩=>bI.of h2) ?_ ?_
  ·rintro k y σ H2 hk hy ⟨v3,v4,v5,v6,kvs,rfl,s2,hl2,hd2,hlen,hkey,hval⟩
   rw[List.length_map,hN]at hk
   rw[List.length_map,hN]at hy
   obtain⟨e,he,rfl⟩:=kL hy
   obtain⟨s,hs,X5,l',hel,hsl⟩:=GP.Paired.at hst he
   have hin:=Gd.dN.mp (List.mem_of_getElem? hs)
   have hke:jj H e.2.1 (f6 s):=by rw[←X5];exact hS.keys e (List.mem_of_getElem? he)
   obtain⟨l'',SQ,JK⟩:=wj hst (Gd.dN.mpr hin)
   obtain⟨ps,hps,pp⟩:=JK
   have hpl:=Paired.len pp
   refine⟨λσ H'=>σ=[some (.ref x),some (.ref dr),some (.ref d),some (.ref e.2.1),some (.int (g.tM s 0:Int)),v5,v6]/\H2=H',?_,?_⟩
   ·refine⟨_,rfl,_,rfl,_,rfl,x,dr,e.2.1,g,bs,kr,s,rfl,Z5.same s2,jj.same hke s2,hin,_,rfl,?_⟩
    cases z:g.stop s with
    |true=>exact ng ⟨by unfold Gd.tM;rw[z];rfl,rfl⟩
    |false=>exact jr ⟨by unfold Gd.tM;rw[z];rfl,rfl⟩
   rintro σ _ ⟨rfl,rfl⟩
   refine⟨_,rfl,x,_,dx,_,_,rfl,s2 _ _ hx,T.fH,T.gk,oG,_,rfl,dS,kS,f6 s,e.2.1,.ref l'',rfl,rfl,ND.same hS s2,jj.same hke s2,SQ,l'',rfl,⟨_,bI.of (s2 _ _ hps)⟩,?_⟩
   have hc2:ND P w H2 d kvs:=⟨hd2,λe he=>jj.same (hkey e he) Wo.sub⟩
   refine oH (K:=K) (a:=l'') (xs:=ps.map V.ref) (λj σ H4=>∃v5 v6,σ=[some (.ref x),some (.ref dr),some (.ref d),some (.ref e.2.1),some (.int (g.tM s j:Int)),v5,v6]/\H2=H4)
    ⟨_,_,rfl,rfl⟩ (λj σ H4 _ ⟨_,_,_,e4⟩=>by rw[←e4];exact bI.of (s2 _ _ hps)) ?_ ?_
   ·rintro j y σ H4 hy ⟨v5,v6,rfl,rfl⟩
    obtain⟨pt,hpt,rfl⟩:=kL hy
    obtain⟨t,ht,q,hq1,hq2⟩:=GP.Paired.at pp hpt
    have hb:=Gd.uU hs (List.mem_of_getElem? ht)
    rw[show g.states.length-1-k+1=g.states.length-k by omega]at hb
    have hit:=Gd.nu (List.mem_of_getElem? ht) hin
    refine⟨_,_,rfl,dR.of (s2 _ _ hq1),rfl,_,_,rfl,_,_,rfl,rfl,?_⟩
    refine⟨_,rfl,_,rfl,_,rfl,dr,kr,f6 t.1,q,_,rfl,rfl,ND.same hdr s2,jj.same hq2 s2,hR t.1 hit,_,_,rfl,rfl,?_⟩
    refine⟨_,rfl,_,rfl,dr,kr,f6 s,e.2.1,_,rfl,rfl,ND.same hdr s2,jj.same hke s2,hR s hin,rfl,_,rfl,?_⟩
    have eC:=Gd.E5 ht
    rw[kg]
    refine cD (λz=>?_) λz=>?_
    ·refine⟨_,rfl,_,rfl,_,rfl,d,kvs,f6 t.1,q,_,rfl,rfl,hc2,jj.same hq2 s2,hval t.1 hb,_,_,rfl,rfl,some (.ref q),some (.int t.2),?_,rfl⟩
     rw[eC,if_pos z,Int.natCast_add]
     rfl
    ·refine⟨some (.ref q),some (.int t.2),?_,rfl⟩
     rw[eC,if_neg z]
     rfl
   ·rintro σ H4 ⟨v5,v6,rfl,rfl⟩
    rw[List.length_map,hpl,Gd.Hy]
    refine⟨_,rfl,_,rfl,_,rfl,d,kvs,f6 s,e.2.1,rfl,rfl,hc2,jj.same hke s2,G7 hn hm (by omega),?_⟩
    have sw:ai (Wo d H2) (Wo d (L2.upd H2 d (AV P w d (rU kvs (f6 s) e.2.1 (.int (g.cnt s:Int)))))):=λb u h=>Wo.in (Wo.ne h) (by rw[ao (Wo.ne h)];exact Wo.sub b u h)
    have Ph:∀{b:Addr} {xs:List V},H2 b=some (.tup xs)->b≠d:=λ{b xs} h z=>by rw[z,hd2]at h;cases h
    obtain⟨pk,hk1,hk2⟩:=hke
    refine⟨_,_,_,_,_,rfl,ai.at s2 hd,by rw[ao RQ];exact hl2,ah,Nat.le_trans (xB _ _ _ _) (Nat.succ_le_succ hlen),zF (λe he=>jj.same (hkey e he) sw) (jj.same ⟨pk,Wo.in (Ph (s2 _ _ hk1)) (s2 _ _ hk1),Wo.in (Ph (s2 _ _ hk2)) (s2 _ _ hk2)⟩ sw),λr hr=>?_⟩
    rw[CP]
    rw[show g.states.length-(k+1)=g.states.length-1-k by omega,List.drop_eq_getElem_cons (by omega)]at hr
    rw[(List.getElem?_eq_some_iff.mp hs).2]at hr
    by_cases er:f6 r=f6 s
    ·rw[if_pos er,sR er]
    ·rw[if_neg er]
     rcases List.mem_cons.mp hr with hr|hr
     ·exact absurd (by rw[hr]) er
     ·exact hval r (by rw[show g.states.length-k=g.states.length-1-k+1 by omega];exact hr)
  ·rintro σ H2 ⟨v3,v4,v5,v6,kvs,rfl,s2,hl2,hd2,hlen,hkey,hval⟩
   rw[List.length_map,hN,Nat.sub_self,List.drop_zero]at hval
   exact⟨_,rfl,kk d kvs H2 s2 hd ⟨hd2,λe he=>jj.same (hkey e he) Wo.sub⟩ λs hs=>hval s (Gd.dN.mpr hs)⟩
theorem CK {gQ aQ c9 jb dh:Addr} {fM bP cL g9 cM:FuncData} {p:Pm} (T:Txt K mg p base) (c6:Dn K mg "count_of" mT l8 gQ fM) (bM:Dm K "__init__" "Ground.__init__" bL MV aQ bP) (oO:Mk K p.aK aQ) (ku:aI P w K mg base (vz P w) 6 aQ bP MV (wO P w K p.au p.aK p.aB p.aG)) (bK:Dn K mg "least_rests" je Pz c9 cL) (oi:aI P w K mg base b8 1 c9 cL Pz (Ed P w p.aK)) (fW:Dn K mg "all_counts" mE l7 jb g9) (BO:aI P w K mg base b8 2 jb g9 l7 (IM P w p.aK)) (bF:Dn K mg "first_begin" jf l7 dh cM) (oj:aI P w K mg base b8 1 dh cM l7 (wQ P w p.aK (ue K))):aI P w K mg base (vz P w) 8 gQ fM l8 (Al P w K p.au p.aB p.aG (ue K)):=by
 refine c6.fn.Pb lH (λvs H Q E h=>?_) (λcdv A outer s H vs Q E hr h=>?_)
 ·obtain⟨pr,T1,f,s,m,rfl,_⟩:=h
  rfl
 ·obtain⟨pr,T1,f,s,m,rfl,hP,hT,hf,hs,kk,kS,kM⟩:=h
  refine⟨_,(aj (aD (i:=4) lH.nd rfl (Or.inl rfl) (AE oO ku (hr.mono (by decide)) rfl T.zH bM.b .nil (Lets.passes oZ) (aa (pv 0) (aa (pv 1) (aa (pv 2) (aa (pv 3) af))))))
   (aj (aD (i:=5) lH.nd rfl (Or.inr rfl) (az oi (hr.mono (by decide)) rfl bK.m bK.fn.kp bK.b .nil aN (aa (pv 4) af)))
   (aj (aD (i:=6) lH.nd rfl (Or.inr rfl) (az BO (hr.mono (by decide)) rfl fW.m fW.fn.kp fW.b .nil aN (aa (pv 4) (aa (pv 5) af))))
   (aj (aD (i:=7) lH.nd rfl (Or.inr rfl) (jo (Pr:=P) (wo:=w) (jt hr) (pv 5) (bG (aa (az oj (hr.mono (by decide)) rfl bF.m bF.fn.kp bF.b .nil aN (aa (pv 4) (aa (pv 5) af))) (aa bB af))) (λ_ _=>rfl) rfl rfl))
   (aq (aL (aC (zR (K':=K) rfl rfl) rfl T.MB Kw (aa (oE (N:=["begin","rests","counts","least"]) rfl (cG.rm (nt:=1) (ix:=[5,6,7]) rfl (by decide +kernel) (by decide +kernel) (by kernel_rfl) rfl (by kernel_rfl)) (jn (cW (pv 4) rfl)) (λ_ _ _ _ _ _ _=>(aM (i:=0) (show(["begin","rests","counts","least"]:List Str).Nodup by decide +kernel) rfl (Or.inl rfl))) (λ_ _ _ _ _ _ _=>(jo (Pr:=P) (wo:=w) (jt hr) (pv 2) (bG (aa (pv 0) (aa bB af))) (λ_ _=>rfl) rfl rfl)) (λ_ _ _ _ _ _ _=>(aR cH (jo (Pr:=P) (wo:=w) (jt hr) (pv 1) (bG (aa (pv 0) (aa bB af))) (λ_ _=>rfl) rfl rfl) (pv 3) (aO _)))) af)))))))),?_⟩
  refine⟨_,rfl,_,rfl,_,rfl,_,rfl,λx dx hx hdx Zn=>?_⟩
  have s1:ai H (L2.upd (L2.upd H dx (.own x)) x (.ins p.aK dx [])):=ai.at (ai.upd hdx) hx
  refine⟨x,dx,pr,T1,f,s,m,rfl,ah,hP.same s1,hf,hs,λof os hm=>?_,λi j bad dx H1 s2 hd=>kS i j bad dx H1 (s1.trans s2) hd,λof os hm=>⟨(kM of os hm).1,λH1 s2=>(kM of os hm).2 H1 (s1.trans s2)⟩⟩
  obtain⟨vP,vO,kk⟩:=kk of os hm
  refine⟨vP,vO,λH1 e1 hG=>⟨rfl,?_⟩⟩
  have QH:ai H H1:=λb u q=>e1 b u (aP q hx) (s1 b u q)
  have ok:=EU T1 m f s
  refine⟨_,rfl,x,_,_,rfl,hG,ok,vP,vO,λd kvs H2 s2 hd hnd hR=>?_⟩
  have IT:=QH.trans s2
  refine⟨_,rfl,_,rfl,x,d,_,_,kvs,rfl,⟨hG.same s2,hnd,hR⟩,vP,vO,λd2 kv2 H3 s3 hd2 XI hC=>?_⟩
  have KR:=IT.trans s3
  refine⟨_,rfl,_,rfl,_,rfl,x,d,_,_,kvs,rfl,GR.same ⟨hG.same s2,hnd,hR⟩ s3,hT.same KR,Br _ _ _,λb hb=>dO.mp (List.mem_filter.mp hb).1,λpb b H4 W2 hb Hl=>?_⟩
  have W6:=ai.lo KR hT W2
  have Z7:=W2.gR (GR.same ⟨hG.same s2,hnd,hR⟩ s3)
  have hC4:=W2.nk XI
  have hbi:∀b∈cI m f.cps.size s.cps.size,(cK T1 m f s).In (b.1,b.2,112):=λb hb=>by
   have:=dO.mp (List.mem_filter.mp hb).1
   exact⟨this.1,this.2,.inl rfl⟩
  refine⟨by show 2<=sizeLine;decide,λq hq=>?_⟩
  have s5:ai H4 (L2.upd H4 q (.tup [.ref pb,.str (Str.ofString "p")])):=ai.upd hq
  refine⟨d,kvs,f6 (b.1,b.2,112),q,_,rfl,rfl,ND.same Z7.2.1 s5,⟨pb,by rw[ah,sP];rfl,s5 _ _ Hl⟩,hR _ (hbi b (m6 hb)),?_⟩
  generalize L2.upd H4 q (.tup [.ref pb,.str (Str.ofString "p")])=H5 at s5
  have W5:=W6.then s5
  have Z6:=Z7.same s5
  have hC5:=ND.same hC4 s5
  obtain⟨dx5,dS,lB,dE,kS5,kE,Xp,hS5,abh,⟨ps,hps,pp⟩,hE5,abU⟩:=id Z6.1
  refine⟨_,rfl,x,_,dx5,_,_,rfl,Xp,T.fH,T.lS,xR,lB,rfl,⟨_,bI.of hps⟩,λlc Mc=>?_⟩
  have hlen:=Paired.len pp
  have hbl:(cI m f.cps.size s.cps.size).length<=169:=by
   refine Nat.le_trans (List.length_filter_le _ _) ?_
   rw[places_len]
   exact Nat.mul_le_mul (show f.cps.size+1<=13 by omega) (show s.cps.size+1<=13 by omega)
  have at_:∀i,i<ps.length->ps[i]? =some (ps.getD i 0)/\(cI m f.cps.size s.cps.size)[i]? =some ((cI m f.cps.size s.cps.size).getD i (0,0))/\Gy H5 (ps.getD i 0) ((cI m f.cps.size s.cps.size).getD i (0,0)):=λi hi=>by
   have e:ps[i]? =some (ps.getD i 0):=by rw[List.getD_eq_getElem?_getD,List.getElem?_eq_getElem hi];rfl
   obtain⟨q,hq,hpq⟩:=GP.Paired.at pp e
   have eq:=j9 (d:=(0,0)) hq
   exact⟨e,by rw[eq];exact hq,by rw[eq];exact hpq⟩
  refine tN ps.length (λi=>decide ((cK T1 m f s).kG ((cI m f.cps.size s.cps.size).getD i (0,0))=(cK T1 m f s).kG b)) (λi=>.int ((cK T1 m f s).cnt (((cI m f.cps.size s.cps.size).getD i (0,0)).1,((cI m f.cps.size s.cps.size).getD i (0,0)).2,112):Nat)) Mc (Nat.lt_of_le_of_lt (show ps.length<=1000 by omega) (by decide)) (λi H6 s6 hi=>?_) (λH6 s6=>?_) (λi y H6 H7 R S s6 hi hy hY hZ=>?_) λH6 s6 M6=>?_
  ·exact⟨_,_,bI.of (s6 _ _ hps),by rw[List.getElem?_map,(at_ i hi).1];rfl⟩
  ·exact⟨_,bI.of (s6 _ _ hps),by rw[List.length_map];exact Nat.le_refl _⟩
  ·obtain⟨rfl,hy⟩:=hy
   have ey:=hy _ (bI.of (s6 _ _ hps))
   obtain⟨e1,e2,e3⟩:=at_ i hi
   rw[List.getElem?_map,e1]at ey
   cases ey
   have Qe:=hbi _ (List.mem_of_getElem? e2)
   generalize (cI m f.cps.size s.cps.size).getD i (0,0)=b' at hY hZ e3 Qe
   refine⟨Kp.An,_,rfl,_,rfl,by show 2<=sizeLine;decide,λq hq=>?_⟩
   have s7:=ai.upd (o:=.tup [.ref (ps.getD i 0),.str (Str.ofString "p")]) hq
   have QG:=s6.trans s7
   refine⟨d,kvs,f6 (b'.1,b'.2,112),q,_,rfl,rfl,ND.same Z6.2.1 QG,⟨ps.getD i 0,by rw[ah,sP];rfl,QG _ _ e3⟩,hR _ Qe,_,rfl,rfl,_,rfl,?_⟩
   rw[kg]
   refine cD (λz=>?_) λz=>hZ (decide_eq_false z) _ s7
   refine⟨_,rfl,_,rfl,by show 2<=sizeLine;decide,λq2 hq2=>?_⟩
   have s8:=ai.upd (o:=.tup [.ref (ps.getD i 0),.str (Str.ofString "p")]) hq2
   have Y6:=QG.trans s8
   exact⟨d2,kv2,f6 (b'.1,b'.2,112),q2,_,rfl,rfl,ND.same hC5 Y6,⟨ps.getD i 0,by rw[ah,sP];rfl,Y6 _ _ e3⟩,hC _ Qe,hY (decide_eq_true z) _ (s7.trans s8)⟩
  ·rw[hlen,xW (cI m f.cps.size s.cps.size) (0,0) (λb'=>decide ((cK T1 m f s).kG b'=(cK T1 m f s).kG b)) (λb'=>V.int ((cK T1 m f s).cnt (b'.1,b'.2,112):Nat))]at M6
   refine⟨lc,((cI m f.cps.size s.cps.size).filter λb'=>decide ((cK T1 m f s).kG b'=(cK T1 m f s).kG b)).map (λb'=>((cK T1 m f s).cnt (b'.1,b'.2,112):Int)),rfl,bI.of (by rw[M6,List.map_map];rfl),?_⟩
   rw[wL,←Gd.OL λb' hb'=>tH hb hb']
   exact kk b H6 (W5.then s6) hb
end
section
variable{P:Program}{w:World}{K:PySem.W.Frag}{mg:Str->Option Value}{base:Heap}
theorem CI {br:Addr} {aT:FuncData} {p:Pm} (T:Txt K mg p base) (aA:Dn K mg "_law_next" fZ l4 br aT)  :aI P w K mg base b8 1 br aT l4 (pN K):=by
 refine aA.fn.ok pS (λvs H Q E h=>?_) (λcdv A outer s H vs Q E hr h=>?_)
 ·obtain⟨s,t,ns,k,rfl,_⟩:=h
  rfl
 ·obtain⟨s,t,ns,k,rfl,hC,hk2,kk⟩:=h
  have ht:=hC.at_
  have hk:=hC.k0
  refine⟨_,(aj (uw (aE dM (aW bC (pv 1) ak (λ_ _=>rfl)) ak) (AB (pv 1) ak set_list))
   (bJ (aD (i:=2) pS.nd rfl (Or.inl rfl) (oB (aR pY (aC (bz) rfl T.eV ck (aa (pv 0) af)) ak (aO _)) (aW bC (pv 0) (aE cj (aW bC (pv 1) ak (λ_ _=>rfl)) (aC (bz) rfl T.eV ck (aa (pv 0) af))) (λ_ _=>rfl)) ak))
   (aj (aD (i:=3) pS.nd rfl (Or.inl rfl) (aE cj (aE mW (aE dM (aE dM (aE cj (pv 2) ak) (aE mW (aE mW (aW bC (pv 1) ak (λ_ _=>rfl)) (aW bC (pv 1) ak (λ_ _=>rfl))) ak)) ak) ak) ak))
   (aq (aL (aE cj (aE mW (pv 3) (pv 3)) ak)))))),?_⟩
  refine⟨_,rfl,t,_,_,_,rfl,rfl,bI.of ht,rfl,_,_,rfl,rfl,_,rfl,t,_,_,0,rfl,rfl,ht,rfl,?_⟩
  have hq:bI K (upd H t (.lst [.int (k+1)])) s (ns.map V.int):=hC.Rx _
  have S7:bI K (upd H t (.lst [.int (k+1)])) t [.int (k+1)]:=bI.of ah
  have rest:∀c:Int,∀m1:Int,m1=(c % 2147483647+(k+1)*(k+1)*7919+11)*48271 % 2147483647->Q (.int (m1*m1 % 1999999973)) (upd H t (.lst [.int (k+1)])):=λc m1 _ =>
   kk _ (Int.emod_nonneg _ (by decide)) (Int.emod_lt_of_pos _ (by decide))
  refine⟨λσ H2=>H2=upd H t (.lst [.int (k+1)])/\∃c:Int,σ=[some (.ref s),some (.ref t),some (.int c),none],?_,?_⟩
  ·refine⟨_,rfl,_,_,rfl,.inl ⟨_,hq,rfl⟩,_,_,rfl,rfl,_,rfl,?_⟩
   refine cD (λh0=>?_) (λh0=>?_)
   ·have hn:0<ns.length:=by rw[List.length_map]at h0;omega
    have i1:=Int.emod_nonneg (k+1) (show((ns.length:Nat):Int)≠0 by omega)
    have i2:=Int.emod_lt_of_pos (k+1) (show(0:Int)<((ns.length:Nat):Int) by omega)
    obtain⟨j,hj⟩:∃j:Nat,(k+1) % ((ns.length:Nat):Int)=(j:Int):=⟨_,(Int.toNat_of_nonneg i1).symm⟩
    have hjl:j<ns.length:=by omega
    refine⟨_,rfl,_,rfl,t,_,_,_,rfl,rfl,S7,rfl,_,rfl,_,_,rfl,.inl ⟨_,hq,rfl⟩,_,_,rfl,rfl,(by show(0:Int)<(((ns.map V.int).length:Nat):Int);rw[List.length_map];omega),?_⟩
    refine⟨s,_,_,.int ns[j],rfl,rfl,hq,?_,rfl,_,rfl⟩
    rw[List.length_map,hj]
    exact ee (by rw[List.getElem?_map,List.getElem?_eq_getElem hjl];rfl)
   ·exact⟨rfl,_,rfl⟩
  ·rintro σ H2 ⟨rfl,c,rfl⟩
   refine⟨_,rfl,_,_,rfl,rfl,(by show(0:Int)<_;decide),?_⟩
   refine⟨_,rfl,t,_,_,_,rfl,rfl,S7,rfl,_,rfl,t,_,_,_,rfl,rfl,S7,rfl,_,_,rfl,rfl,.inl ⟨by omega,by omega⟩,_,_,rfl,rfl,.inr ⟨by decide,by decide⟩,_,_,rfl,rfl,_,_,rfl,rfl,_,_,rfl,rfl,.inr ⟨by decide,by decide⟩,_,_,rfl,rfl,(by show(0:Int)<_;decide),?_⟩
   have m0:=Int.emod_nonneg ((c % 2147483647+(k+1)*(k+1)*7919+11)*48271) (show(2147483647:Int)≠0 by decide)
   have m1:=Int.emod_lt_of_pos ((c % 2147483647+(k+1)*(k+1)*7919+11)*48271) (show(0:Int)<2147483647 by decide)
   exact⟨_,rfl,_,rfl,_,_,rfl,rfl,.inl ⟨by omega,by omega⟩,_,_,rfl,rfl,(by show(0:Int)<_;decide),rest c _ rfl⟩
theorem AR {jI br:Addr} {iU aT:FuncData} {p:Pm} (T:Txt K mg p base) (gJ:Dn K mg "_law_great" nJ l4 jI iU) (aA:Dn K mg "_law_next" fZ l4 br aT) (cu:aI P w K mg base b8 1 br aT l4 (pN K)):aI P w K mg base b8 2 jI iU l4 (FF K):=by
 refine gJ.fn.ok oR (λvs H Q E h=>?_) (λcdv A outer s H vs Q E hr h=>?_)
 ·obtain⟨s,t,ns,k,rfl,_⟩:=h
  rfl
 ·obtain⟨s,t,ns,k,rfl,hC,hk2,kk⟩:=h
  have hk:=hC.k0
  refine⟨_,(aj (aD (i:=2) oR.nd rfl (Or.inl rfl) (az cu (hr.mono (by decide)) rfl aA.m aA.fn.kp aA.b .nil aN (aa (pv 0) (aa (pv 1) af))))
   (bJ (aD (i:=3) oR.nd rfl (Or.inl rfl) (oB (aR pY (aC (bz) rfl T.eV ck (aa (pv 0) af)) ak (aO _)) (aW bC (pv 0) (aE cj (aW bC (pv 1) ak (λ_ _=>rfl)) (aC (bz) rfl T.eV ck (aa (pv 0) af))) (λ_ _=>rfl)) ak))
   (aq (aL (aE mV (aE cj (aE dM (aE cj (pv 3) (aE AG ak ak)) (aE mW (pv 2) (aE AG ak ak))) (aE mW ak (aE AG ak ak))) (aE AG ak ak)))))),?_⟩
  refine⟨_,rfl,_,rfl,s,t,ns,k,rfl,hC,hk2,λm hm hm2=>?_⟩
  have hq:bI K (upd H t (.lst [.int (k+1)])) s (ns.map V.int):=hC.Rx _
  have S7:bI K (upd H t (.lst [.int (k+1)])) t [.int (k+1)]:=bI.of ah
  refine⟨λσ H2=>H2=upd H t (.lst [.int (k+1)])/\∃c:Int,σ=[some (.ref s),some (.ref t),some (.int m),some (.int c)],?_,?_⟩
  ·refine⟨_,rfl,_,_,rfl,.inl ⟨_,hq,rfl⟩,_,_,rfl,rfl,_,rfl,?_⟩
   refine cD (λh0=>?_) (λh0=>?_)
   ·have hn:0<ns.length:=by rw[List.length_map]at h0;omega
    have i1:=Int.emod_nonneg (k+1) (show((ns.length:Nat):Int)≠0 by omega)
    have i2:=Int.emod_lt_of_pos (k+1) (show(0:Int)<((ns.length:Nat):Int) by omega)
    obtain⟨j,hj⟩:∃j:Nat,(k+1) % ((ns.length:Nat):Int)=(j:Int):=⟨_,(Int.toNat_of_nonneg i1).symm⟩
    have hjl:j<ns.length:=by omega
    refine⟨_,rfl,_,rfl,t,_,_,_,rfl,rfl,S7,rfl,_,rfl,_,_,rfl,.inl ⟨_,hq,rfl⟩,_,_,rfl,rfl,(by show(0:Int)<(((ns.map V.int).length:Nat):Int);rw[List.length_map];omega),?_⟩
    refine⟨s,_,_,.int ns[j],rfl,rfl,hq,?_,rfl,_,rfl⟩
    rw[List.length_map,hj]
    exact ee (by rw[List.getElem?_map,List.getElem?_eq_getElem hjl];rfl)
   ·exact⟨rfl,_,rfl⟩
  ·rintro σ H2 ⟨rfl,c,rfl⟩
   have p39:(0:Int)<(10:Int) ^ (39:Int).toNat:=by decide +kernel
   refine⟨_,rfl,_,_,rfl,rfl,⟨by decide,by decide,by decide⟩,_,_,rfl,rfl,p39,_,rfl,_,_,rfl,rfl,⟨by decide,by decide,by decide⟩,_,_,rfl,rfl,.inl ⟨by omega,by omega⟩,_,_,rfl,rfl,?_⟩
   have p2:(0:Int)<2*(10:Int) ^ (39:Int).toNat:=by omega
   refine⟨_,_,rfl,rfl,⟨by decide,by decide,by decide⟩,_,_,rfl,rfl,.inl ⟨by decide,by decide⟩,_,_,rfl,rfl,p2,_,_,rfl,rfl,⟨by decide,by decide,by decide⟩,_,_,rfl,rfl,?_⟩
   have m0:=Int.emod_nonneg (c % (10:Int) ^ (39:Int).toNat+m*(10:Int) ^ (28:Int).toNat) (Int.ne_of_gt p2)
   have m1:=Int.emod_lt_of_pos (c % (10:Int) ^ (39:Int).toNat+m*(10:Int) ^ (28:Int).toNat) p2
   have e39:(10:Int) ^ (39:Int).toNat=10 ^ 39:=rfl
   refine kk _ ?_ ?_
   ·rw[←e39];omega
   ·rw[←e39];omega
theorem AN {jF br:Addr} {iR aT:FuncData} {p:Pm} (T:Txt K mg p base) (gH:Dn K mg "_law_signs" nF KY jF iR) (aA:Dn K mg "_law_next" fZ l4 br aT) (cu:aI P w K mg base b8 1 br aT l4 (pN K)):aI P w K mg base b8 2 jF iR KY (Cf K):=by
 refine gH.fn.ok jS (λvs H Q E h=>?_) (λcdv A outer s H vs Q E hr h=>?_)
 ·obtain⟨s,t,ns,k,n,rfl,_⟩:=h
  rfl
 ·obtain⟨s,t,ns,k,n,rfl,hC,hk,hn1,hn,kk⟩:=h
  refine⟨_,(aj (aD (i:=3) jS.nd rfl (Or.inr rfl) bB)
   (aj (aD (i:=3) jS.nd rfl (Or.inr rfl) (aE oY (pv 3) bB))
   (aj (aD (i:=4) jS.nd rfl (Or.inr rfl) (az cu (hr.mono (by decide)) rfl aA.m aA.fn.kp aA.b .nil aN (aa (pv 0) (aa (pv 1) af))))
   (aj (aD (i:=5) jS.nd rfl (Or.inr rfl) (aW bC (eX (aa ak (aa ak (aa ak (aa ak (aa ak (aa ak af))))))) (aE cj (pv 4) ak) (λ_ _=>rfl)))
   (aq (aL (mU PySem.F.plainAttrs_str PySem.F.slot_str_join PySem.F.type_str_join F4 bB (aa (nM (N:=Zw) rfl (cG.rm (nt:=1) (ix:=[3,4,5]) rfl (by decide +kernel) (by decide +kernel) (by kernel_rfl) rfl (by kernel_rfl)) (gi rfl T.jP (aa (pv 2) af)) (λ_ _ _ _ _ _ _=>(aM (i:=0) (show(Zw:List Str).Nodup by decide +kernel) rfl (Or.inl rfl))) (λ_ _ _ _ _ _ _=>(aW uJ (pv 1) (aE cj (aE dM (aE dG (pv 2) ak) (aE mW (pv 0) (pv 3))) (aC (Bm) rfl T.eV ck (aa (pv 1) af))) (λ_ _=>rfl)))) af)))))))),?_⟩
  refine⟨_,rfl,_,_,rfl,rfl,(by decide +kernel),?_⟩
  obtain⟨S,hS⟩:∃S:Str,S=Str.ofString " !#$&'()*+,./0123456789:;<=>?@ABCDEFGHIJKLMNOPQRSTUVWXYZ" ++Str.ofString "[\\]^_`abcdefghijklmnopqrstuvwxyz{|}~" :=⟨_,rfl⟩
  have ZW:S.cps.size=92:=by rw[hS];kernel_rfl
  have Yg:S.cps.all o4=true:=by rw[hS];kernel_rfl
  have hS3:S.cps.toList.Nodup:=xP (by rw[hS];kernel_rfl)
  rw[←hS]
  refine⟨_,rfl,_,rfl,s,t,ns,k,rfl,hC,hk,λm hm hm2=>?_⟩
  refine⟨by show 6<=sizeLine;decide,λq hq=>?_⟩
  have s1:ai (upd H t (.lst [.int (k+1)])) (upd (upd H t (.lst [.int (k+1)])) q (.lst [.int 1,.int 3,.int 5,.int 7,.int 9,.int 11])):=ai.upd hq
  have hq1:upd (upd H t (.lst [.int (k+1)])) q (.lst [.int 1,.int 3,.int 5,.int 7,.int 9,.int 11]) q=some (.lst [.int 1,.int 3,.int 5,.int 7,.int 9,.int 11]):=ah
  generalize upd (upd H t (.lst [.int (k+1)])) q (.lst [.int 1,.int 3,.int 5,.int 7,.int 9,.int 11])=H1 at s1 hq1 ⊢
  obtain⟨tv,htv,⟨ht1,DX⟩,hat⟩:∃tv:Int,(tv=1\/tv=3\/tv=5\/tv=7\/tv=9\/tv=11)/\(0<=tv/\tv<=11)/\z0 [V.int 1,.int 3,.int 5,.int 7,.int 9,.int 11] (m % 6)=some (.int tv):=by
   have h1:=Int.emod_nonneg m (show(6:Int)≠0 by decide)
   have h2:=Int.emod_lt_of_pos m (show(0:Int)<6 by decide)
   have e:m % 6=0\/m % 6=1\/m % 6=2\/m % 6=3\/m % 6=4\/m % 6=5:=by omega
   rcases e with e|e|e|e|e|e<;>rw[e]
   ·exact⟨1,by decide,by decide,rfl⟩
   ·exact⟨3,by decide,by decide,rfl⟩
   ·exact⟨5,by decide,by decide,rfl⟩
   ·exact⟨7,by decide,by decide,rfl⟩
   ·exact⟨9,by decide,by decide,rfl⟩
   ·exact⟨11,by decide,by decide,rfl⟩
  refine⟨_,rfl,_,_,rfl,rfl,(by show(0:Int)<6;decide),?_⟩
  refine⟨q,_,_,.int tv,rfl,rfl,bI.of hq1,hat,?_⟩
  refine⟨rfl,_,rfl,n,rfl,by omega,by omega,λl hl=>?_⟩
  refine Bh n (λi=>sg (S.cps.toList.getD ((m / 6+(i:Int)*tv) % 92).toNat 0)) hl (Nat.lt_of_le_of_lt hn (by decide)) (λi H2 s2 hi=>?_) (λH2 s2=>?_) (λi x H2 H3 R s2 hi y hR=>?_) λH2 s2 hl2=>?_
  ·show i<((n:Nat):Int).toNat
   omega
  ·show((n:Nat):Int).toNat<=n
   omega
  ·obtain⟨rfl,rfl⟩:=y
   refine⟨Kp.An,?_⟩
   have i1:=Int.emod_nonneg (m / 6+(i:Int)*tv) (show(92:Int)≠0 by decide)
   have i2:=Int.emod_lt_of_pos (m / 6+(i:Int)*tv) (show(0:Int)<92 by decide)
   obtain⟨j,hj⟩:∃j:Nat,(m / 6+(i:Int)*tv) % 92=(j:Int):=⟨_,(Int.toNat_of_nonneg i1).symm⟩
   have hjl:j<S.cps.toList.length:=by rw[Array.length_toList];omega
   refine⟨_,rfl,_,rfl,_,_,rfl,rfl,⟨by decide,by decide⟩,_,rfl,_,rfl,_,_,rfl,rfl,.inl ⟨by omega,by omega⟩,_,_,rfl,rfl,_,rfl,S,rfl,(by show S.cps.size<=_;rw[ZW];decide),_,_,rfl,rfl,(by show(0:Int)<(S.cps.size:Int);omega),?_⟩
   have eS:((S.length:Nat):Int)=92:=by show((S.cps.size:Nat):Int)=92;omega
   refine⟨S,_,S.cps.toList[j],rfl,rfl,(by show S.cps.size<=_;rw[ZW];decide),(by rw[Int.zero_add,eS,hj];exact ee (List.getElem?_eq_getElem hjl)),?_⟩
   have e:S.cps.toList[j]=S.cps.toList.getD ((m / 6+(i:Int)*tv) % 92).toNat 0:=by
    rw[hj,Int.toNat_natCast,j9 (List.getElem?_eq_getElem hjl)]
   rw[e]
   exact hR _ (ai.refl _)
  ·refine⟨l,(List.range n).map (λi:Nat=>S.cps.toList.getD ((m / 6+(i:Int)*tv) % 92).toNat 0),rfl,rfl,?_,?_,kk _ H2 ⟨?_,?_,λc hc=>?_,EB hS3 n (λi _=>?_) λi j hij hj=>Lb htv hij (by omega)⟩ ?_ (s1.trans s2)⟩
   ·rw[List.map_map]
    exact bI.of hl2
   ·rw[List.length_map,List.length_range];omega
   ·show 0<((List.range n).map _).length
    rw[List.length_map,List.length_range];omega
   ·show((List.range n).map _).length<=100
    rw[List.length_map,List.length_range];omega
   ·obtain⟨i,hi,rfl⟩:=List.mem_map.mp (show c∈(List.range n).map _ from hc)
    have i1:=Int.emod_nonneg (m / 6+(i:Int)*tv) (show(92:Int)≠0 by decide)
    have i2:=Int.emod_lt_of_pos (m / 6+(i:Int)*tv) (show(0:Int)<92 by decide)
    obtain⟨j,hj⟩:∃j:Nat,(m / 6+(i:Int)*tv) % 92=(j:Int):=⟨_,(Int.toNat_of_nonneg i1).symm⟩
    have hjl:j<S.cps.toList.length:=by rw[Array.length_toList];omega
    rw[hj,Int.toNat_natCast,j9 (List.getElem?_eq_getElem hjl)]
    exact Array.all_eq_true_iff_forall_mem.mp Yg _ (Array.mem_toList_iff.mp (List.getElem_mem hjl))
   ·have i1:=Int.emod_nonneg (m / 6+(i:Int)*tv) (show(92:Int)≠0 by decide)
    have i2:=Int.emod_lt_of_pos (m / 6+(i:Int)*tv) (show(0:Int)<92 by decide)
    rw[Array.length_toList]
    omega
   ·show((List.range n).map _).length=n
    rw[List.length_map,List.length_range]
theorem AO {jG br jI:Addr} {iS aT iU:FuncData} {p:Pm} (T:Txt K mg p base) (bW:Dn K mg "_law_price" nG R7 jG iS) (aA:Dn K mg "_law_next" fZ l4 br aT) (cu:aI P w K mg base b8 1 br aT l4 (pN K)) (gJ:Dn K mg "_law_great" nJ l4 jI iU) (DR:aI P w K mg base b8 2 jI iU l4 (FF K)):aI P w K mg base b8 3 jG iS R7 (Cg K):=by
 refine bW.fn.ok sN (λvs H Q E h=>?_) (λcdv A outer s H vs Q E hr h=>?_)
 ·obtain⟨s,t,ns,k,c,rfl,_⟩:=h
  rfl
 ·obtain⟨s,t,ns,k,c,rfl,hC,hk2,kk⟩:=h
  have hk:=hC.k0
  refine⟨_,(aj (aD (i:=3) sN.nd rfl (Or.inl rfl) (az cu (hr.mono (by decide)) rfl aA.m aA.fn.kp aA.b .nil aN (aa (pv 0) (aa (pv 1) af))))
   (aj (bO (aR cH (pv 2) ak (aO _)) (aq (aL (bG (aa (aE mV (aE cj (pv 3) ak) ak) (aa ak af))))) aS)
   (aj (bO (aR cH (pv 2) ak (aO _)) (aq (aL (bG (aa (aE mV (aE cj (pv 3) ak) ak) (aa (aE dM ak (aE cj (aE dG (pv 3) ak) ak)) af))))) aS)
   (aj (bO (aR cH (pv 2) ak (aO _)) (aq (aL (bG (aa (aE mV (aE cj (pv 3) ak) ak) (aa ak af))))) aS)
   (aq (aL (bG (aa (az DR (hr.mono (by decide)) rfl gJ.m gJ.fn.kp gJ.b .nil aN (aa (pv 0) (aa (pv 1) af))) (aa (aE dM ak (aE cj (aE dG (pv 3) ak) ak)) af))))))))),?_⟩
  refine⟨_,rfl,_,rfl,s,t,ns,k,rfl,hC,by omega,λm hm hm2=>?_⟩
  have ht:upd H t (.lst [.int (k+1)]) t=some (.lst [.int (k+1)]):=ah
  have last:∀(f:cJ) (r:Addr),QA f->upd H t (.lst [.int (k+1)]) r=none->Q (.ref r) (upd (upd H t (.lst [.int (k+1)])) r (.tup [.int f.1,.int f.2])):=λf r hf hr=>by
   have nr:r≠t:=λz=>by rw[z,ht]at hr;cases hr
   exact kk f r _ (k+1) hf (Wo.step (ai.upd hr)) (by rw[ao (Ne.symm nr)];exact ht) (by omega) (by omega) (wG hr) ah
  refine⟨_,rfl,rfl,_,rfl,n8 (λh0=>?_) λh0=>?_⟩
  ·exact⟨_,rfl,_,_,rfl,rfl,(by show(0:Int)<_;decide),_,_,rfl,rfl,by show 2<=sizeLine;decide,λr hr=>last (m % 7-1,1) r ⟨by show(1:Int)<=1;omega,by show(1:Int)<=999;omega,by show _<=m % 7-1;omega,by show m % 7-1<=_;omega⟩ hr⟩
  refine⟨_,rfl,rfl,_,rfl,n8 (λh1=>?_) λh1=>?_⟩
  ·exact⟨_,rfl,_,_,rfl,rfl,(by show(0:Int)<_;decide),_,_,rfl,rfl,_,rfl,_,_,rfl,rfl,⟨by decide,by decide⟩,_,_,rfl,rfl,(by show(0:Int)<_;decide),_,_,rfl,rfl,by show 2<=sizeLine;decide,λr hr=>last (m % 13-4,1+m / 13 % 4) r ⟨by show 1<=1+m / 13 % 4;omega,by show 1+m / 13 % 4<=999;omega,by show _<=m % 13-4;omega,by show m % 13-4<=_;omega⟩ hr⟩
  refine⟨_,rfl,rfl,_,rfl,n8 (λh2=>?_) λh2=>?_⟩
  ·exact⟨_,rfl,_,_,rfl,rfl,(by show(0:Int)<_;decide),_,_,rfl,rfl,by show 2<=sizeLine;decide,λr hr=>last (m % 9-6,1) r ⟨by show(1:Int)<=1;omega,by show(1:Int)<=999;omega,by show _<=m % 9-6;omega,by show m % 9-6<=_;omega⟩ hr⟩
  refine⟨_,rfl,_,rfl,s,t,ns,k+1,rfl,hC.step (by omega),by omega,λg g1 g2=>?_⟩
  refine⟨_,rfl,_,_,rfl,rfl,⟨by decide,by decide⟩,_,_,rfl,rfl,(by show(0:Int)<_;decide),_,_,rfl,rfl,by show 2<=sizeLine;decide,λr hr=>?_⟩
  have DX:upd (upd H t (.lst [.int (k+1)])) t (.lst [.int (k+1+1)]) t=some (.lst [.int (k+1+1)]):=ah
  have nr:r≠t:=λz=>by rw[z,DX]at hr;cases hr
  refine kk (g,1+m / 13 % 999) r _ (k+1+1) ⟨by show 1<=1+m / 13 % 999;omega,by show 1+m / 13 % 999<=999;omega,g1,g2⟩ ?_ (by rw[ao (Ne.symm nr)];exact DX) (by omega) (by omega) (wG (wG hr)) ah
  have e:=Wo.step (H:=upd H t (.lst [.int (k+1)])) (ai.upd (o:=.tup [.int g,.int (1+m / 13 % 999)]) hr)
  rw[Wo.set]at e
  exact e
end
section
variable{P:Program}{w:World}{K:PySem.W.Frag}{mg:Str->Option Value}{base:Heap}
theorem AM {jE br jF jG:Addr} {iQ aT iR iS:FuncData} {p:Pm} (T:Txt K mg p base) (gG:Dn K mg "_law_table" nE KY jE iQ) (aA:Dn K mg "_law_next" fZ l4 br aT) (cu:aI P w K mg base b8 1 br aT l4 (pN K)) (gH:Dn K mg "_law_signs" nF KY jF iR) (DQ:aI P w K mg base b8 2 jF iR KY (Cf K)) (bW:Dn K mg "_law_price" nG R7 jG iS) (qz:aI P w K mg base b8 3 jG iS R7 (Cg K)):aI P w K mg base b8 4 jE iQ KY (Fx K):=by
 refine gG.fn.ok dU (λvs H Q E h=>?_) (λcdv A outer s H vs Q E hr h=>?_)
 ·obtain⟨s,t,ns,k,n,rfl,_⟩:=h
  rfl
 ·obtain⟨s,t,ns,k,n,rfl,hC,hk,hn1,hn6,kk⟩:=h
  have hk0:=hC.k0
  refine⟨_,(aj (aD (i:=3) dU.nd rfl (Or.inl rfl) (az cu (hr.mono (by decide)) rfl aA.m aA.fn.kp aA.b .nil aN (aa (pv 0) (aa (pv 1) af))))
   (bJ (aD (i:=4) dU.nd rfl (Or.inr rfl) (aW bC (eX (aa ak (aa ak (aa ak (aa ak (aa ak (aa ak (aa ak (aa ak af))))))))) (aE cj (pv 3) ak) (λ_ _=>rfl)))
   (bJ (aD (i:=5) dU.nd rfl (Or.inl rfl) (az DQ (hr.mono (by decide)) rfl gH.m gH.fn.kp gH.b .nil aN (aa (pv 0) (aa (pv 1) (aa (pv 2) af)))))
   (bJ (xg (i:=6) (N:=Zv) dU.nd rfl (Or.inl rfl) rfl (cG.rm (nt:=1) (ix:=[0,1,2,4]) rfl (by decide +kernel) (by decide +kernel) (by kernel_rfl) rfl (by kernel_rfl)) (gi rfl T.jP (aa (pv 2) af)) (λ_ _ _ _ _ _ _=>(aM (i:=0) (show(Zv:List Str).Nodup by decide +kernel) rfl (Or.inl rfl))) (λ_ _ _ _ _ _ _=>(nM (N:=Zu) rfl (cG.rm (nt:=1) (ix:=[1,2,4]) rfl (by decide +kernel) (by decide +kernel) (by kernel_rfl) rfl (by kernel_rfl)) (gi rfl T.jP (aa (pv 3) af)) (λ_ _ _ _ _ _ _=>(aM (i:=0) (show(Zu:List Str).Nodup by decide +kernel) rfl (Or.inl rfl))) (λ_ _ _ _ _ _ _=>(az qz (hr.mono (by decide)) rfl bW.m bW.fn.kp bW.b .nil aN (aa (pv 1) (aa (pv 2) (aa (pv 3) af))))))))
   (bJ (eW PassesOwn.never rfl (gi rfl T.jP (aa (pv 2) af)) (aM (i:=7) dU.nd rfl (Or.inl rfl)) (bJ (bO (aR pY (aE cj (aE dG (pv 3) ak) ak) ak (aO _)) (aq (uw (bG (aa (aE mV (aW cX (aW bC (aW bC (pv 6) (pv 7) (λ_ _=>rfl)) (pv 7) (λ_ _=>rfl)) ak (λ_ _=>rfl)) ak) (aa (aW cX (aW bC (aW bC (pv 6) (pv 7) (λ_ _=>rfl)) (pv 7) (λ_ _=>rfl)) ak (λ_ _=>rfl)) af))) (AB (aW bC (pv 6) (pv 7) (λ_ _=>rfl)) (pv 7) set_list))) aS)
   (aq (eW PassesOwn.never rfl (gi rfl T.jP (aa (pv 7) af)) (aM (i:=8) dU.nd rfl (Or.inl rfl)) (aq (bO (aR cH (aE cj (aE dG (pv 3) ak) ak) ak (aO _)) (aq (uw (aW bC (aW bC (pv 6) (pv 8) (λ_ _=>rfl)) (pv 7) (λ_ _=>rfl)) (AB (aW bC (pv 6) (pv 7) (λ_ _=>rfl)) (pv 8) set_list))) aS))))))
   (bJ (aD (i:=9) dU.nd rfl (Or.inl rfl) (oB (aR pY (aE cj (aE dG (pv 3) ak) ak) ak (aO _)) (bG (aa (aE cj (aE dG (pv 3) ak) ak) (aa ak af))) (az qz (hr.mono (by decide)) rfl bW.m bW.fn.kp bW.b .nil aN (aa (pv 0) (aa (pv 1) (aa (pv 4) af))))))
   (bJ (aD (i:=10) dU.nd rfl (Or.inl rfl) (oB (aR pY (aE cj (aE dG (pv 3) ak) ak) ak (aO _)) (bG (aa (aE cj (aE dG (pv 3) ak) ak) (aa ak af))) (az qz (hr.mono (by decide)) rfl bW.m bW.fn.kp bW.b .nil aN (aa (pv 0) (aa (pv 1) (aa (pv 4) af))))))
   (aq (aL (bG (aa (pv 5) (aa (pv 6) (aa (pv 9) (aa (pv 10) af)))))))))))))),?_⟩
  refine⟨_,rfl,_,rfl,s,t,ns,k,rfl,hC,by omega,λm hm hm2=>?_⟩
  have w1:ai (Wo t H) (Wo t (upd H t (.lst [.int (k+1)]))):=by rw[Wo.set];exact ai.refl _
  have ht1:upd H t (.lst [.int (k+1)]) t=some (.lst [.int (k+1)]):=ah
  have C1:=hC.step (k':=k+1) (by omega)
  generalize upd H t (.lst [.int (k+1)])=H1 at w1 ht1 C1 ⊢
  refine⟨λσ H2=>∃c:Int,σ=[some (.ref s),some (.ref t),some (.int n),some (.int m),some (.int c),none,none,none,none,none,none]/\ai H1 H2,?_,?_⟩
  ·refine⟨by show 8<=sizeLine;decide,λq hq=>⟨_,rfl,_,_,rfl,rfl,(by show(0:Int)<8;decide),?_⟩⟩
   obtain⟨c,hc⟩:∃c:Int,z0 [V.int 0,.int 1,.int 2,.int 0,.int 3,.int 2,.int 0,.int 1] (m % 8)=some (.int c):=by
    have e:m % 8=0\/m % 8=1\/m % 8=2\/m % 8=3\/m % 8=4\/m % 8=5\/m % 8=6\/m % 8=7:=by omega
    rcases e with e|e|e|e|e|e|e|e<;>rw[e]<;>exact⟨_,rfl⟩
   exact⟨q,_,_,.int c,rfl,rfl,bI.of ah,hc,c,rfl,ai.upd hq⟩
  rintro σ H2 ⟨c,rfl,s2⟩
  refine⟨λσ H3=>∃sg,z6 sg/\sg.cps.size=n/\σ=[some (.ref s),some (.ref t),some (.int n),some (.int m),some (.int c),some (.str sg),none,none,none,none,none]/\ai (Wo t H) (Wo t H3)/\H3 t=some (.lst [.int (k+1+1)]),?_,?_⟩
  ·refine⟨_,rfl,_,rfl,_,rfl,s,t,ns,k+1,n,rfl,C1.same s2,by omega,hn1,hn6,λsg H3 hsg hz s3=>⟨sg,hsg,hz,rfl,w1.trans ((Wo.same s2).trans (Wo.step s3)),s3 _ _ ah⟩⟩
  rintro σ H3 ⟨sg,hsg,hz,rfl,w3,Mb⟩
  refine⟨λσ H4=>∃l k1,σ=[some (.ref s),some (.ref t),some (.int n),some (.int m),some (.int c),some (.str sg),some (.ref l),none,none,none,none]/\ye K H t l n 0 k1 H4/\H l=none/\k<=k1/\k1<=k+100,?_,?_⟩
  ·refine⟨_,rfl,n,rfl,by omega,by omega,λl hl=>?_⟩
   have QJ:l≠t:=λz=>by rw[z,Mb]at hl;cases hl
   have ZN:H l=none:=Wo.back w3 Mb hl
   refine⟨λi m' ys H4=>m'=n-i/\i<=n/\∃rs rows k1,ys=rs.map V.ref/\rs.length=i/\tX K (Wo t H4) l rs rows/\(∀r∈rows,r.length=n)/\(∀r∈rows,∀f∈r,QA f)/\(∀r∈rs,H r=none)/\ai (Wo t H3) (Wo t H4)/\H4 t=some (.lst [.int k1])/\k+2<=k1/\k1<=k+2+12*(i:Int),
    ⟨n,rfl,Nat.zero_le _,[],[],_,rfl,rfl,?_,(λr hr=>by cases hr),(λr hr=>by cases hr),(λr hr=>by cases hr),?_,(by rw[ao QJ.symm];exact Mb),by omega,by omega⟩,?_⟩
   ·rw[Wo.ao QJ]
    exact⟨rfl,ah,List.nodup_nil,(by simp),λi r row h1=>by simp at h1⟩
   ·rw[Wo.ao QJ];exact ai.upd (Wo.free hl)
   rintro i m' ys H4 ⟨rfl,hi,rs,rows,k1,rfl,hrs,LM,r1,r2,r3,s4,Ma,QS,Uq⟩
   have w4:=w3.trans s4
   by_cases hlt:i<n
   ·refine .inr ⟨(by show i<((n:Nat):Int).toNat;omega),?_⟩
    rintro x H5 ⟨rfl,rfl⟩
    refine⟨Kp.An,?_⟩
    refine⟨_,rfl,n,rfl,by omega,by omega,λl2 hl2=>?_⟩
    have EC:l2≠t:=λz=>by rw[z,Ma]at hl2;cases hl2
    have XX:H l2=none:=Wo.back w4 Ma hl2
    refine⟨λj m' ys H6=>m'=n-j/\j<=n/\H6 l2=some (.lst ys)/\∃ps row k2,ys=ps.map V.ref/\ps.length=j/\Paired (kB K (Wo t H6)) ps row/\(∀f∈row,QA f)/\ai (Wo t H5) (Wo t H6)/\H6 t=some (.lst [.int k2])/\k1<=k2/\k2<=k1+2*(j:Int),
     ⟨n,rfl,Nat.zero_le _,ah,[],[],k1,rfl,rfl,.nil,(λf hf=>by cases hf),?_,(by rw[ao EC.symm];exact Ma),by omega,by omega⟩,?_⟩
    ·rw[Wo.ao EC];exact ai.upd (Wo.free hl2)
    rintro j m' ys H6 ⟨rfl,hj,M6,ps,row,k2,rfl,hps,hP,ok,s6,L8,Up,Xf⟩
    by_cases Uz:j<n
    ·refine .inr ⟨(by show j<((n:Nat):Int).toNat;omega),?_⟩
     rintro x H7 ⟨rfl,rfl⟩
     refine⟨Kp.An,?_⟩
     refine⟨_,rfl,_,rfl,_,rfl,s,t,ns,k2,c,rfl,hC.off (w4.trans s6) L8 (by omega),by omega,λf q H8 k3 KS w8 M1 QO QN hqn ZG=>?_⟩
     have nq:q≠t:=pZ ZG M1 (by intro z;cases z)
     have XT:Wo t H8 l2=some (.lst (ps.map V.ref)):=w8 _ _ (Wo.in EC M6)
     refine⟨Wo.sub _ _ XT,?_,n-(j+1),by omega,rfl,Uz,ah,ps++[q],row++[f],k3,by rw[List.map_append];rfl,by rw[List.length_append,hps];rfl,?_,?_,?_,by rw[ao EC.symm];exact M1,by omega,by omega⟩
     ·rw[List.length_map,hps]
      exact Nat.lt_of_lt_of_le (show j<100 by omega) (by decide)
     ·rw[Wo.ao EC]
      refine GP.Paired.snoc (Paired.dP hP λa b z=>dR.off XT (z.same w8)) ?_
      exact dR.off XT (dR.of (Wo.in nq ZG))
     ·intro g hg
      rcases List.mem_append.mp hg with hg|hg
      ·exact ok g hg
      ·rw[List.mem_singleton.mp hg];exact KS
     ·rw[Wo.ao EC]
      exact ai.at (s6.trans w8) (Wo.free hl2)
    ·have ej:j=n:=by omega
     refine .inl ⟨(by show((n:Nat):Int).toNat<=j;omega),?_⟩
     have hlo:Wo t H6 l=some (.lst (rs.map V.ref)):=s6 _ _ LM.at_
     refine⟨Wo.sub _ _ hlo,?_,n-(i+1),by omega,rfl,hlt,rs++[l2],rows++[row],k2,by rw[List.map_append];rfl,by rw[List.length_append,hrs];rfl,?_,?_,?_,?_,?_,by rw[ao QJ.symm];exact L8,by omega,by omega⟩
     ·rw[List.length_map,hrs]
      exact Nat.lt_of_lt_of_le (show i<100 by omega) (by decide)
     ·rw[Wo.ao QJ]
      exact LM.snoc s6 (Wo.free hl2) (Wo.in EC M6) hP
     ·intro r hr
      rcases List.mem_append.mp hr with hr|hr
      ·exact r1 r hr
      ·rw[List.mem_singleton.mp hr,←Paired.len hP,hps,ej]
     ·intro r hr
      rcases List.mem_append.mp hr with hr|hr
      ·exact r2 r hr
      ·rw[List.mem_singleton.mp hr];exact ok
     ·intro r hr
      rcases List.mem_append.mp hr with hr|hr
      ·exact r3 r hr
      ·rw[List.mem_singleton.mp hr];exact XX
     ·rw[Wo.ao QJ]
      exact ai.at (s4.trans s6) (Wo.free hl)
   ·have ei:i=n:=by omega
    subst ei
    refine .inl ⟨(by show((i:Nat):Int).toNat<=i;omega),?_⟩
    refine⟨l,k1,rfl,⟨rs,rows,LM,⟨by rw[←LM.len,hrs],r1⟩,λa b f hf=>?_,r3,w4,Ma⟩,ZN,by omega,by omega⟩
    obtain⟨r,hr,hfr⟩:=hf.mem
    exact⟨(r2 r hr f hfr).l,λ_ _=>r2 r hr f hfr⟩
  rintro σ H4 ⟨l,k1,rfl,P4,ZN,QS,Uq⟩
  refine⟨λσ H5=>∃v7 v8,σ=[some (.ref s),some (.ref t),some (.int n),some (.int m),some (.int c),some (.str sg),some (.ref l),v7,v8,none,none]/\ye K H t l n n k1 H5,?_,?_⟩
  ·refine⟨_,rfl,n,rfl,by omega,by omega,?_⟩
   rw[show((n:Nat):Int).toNat=n by omega]
   refine jA (lo:=0) (n:=n) (λa σ H5=>∃v7 v8,σ=[some (.ref s),some (.ref t),some (.int n),some (.int m),some (.int c),some (.str sg),some (.ref l),v7,v8,none,none]/\ye K H t l n a k1 H5) ⟨_,_,rfl,P4⟩ ?_ (λσ H5 h=>h)
   rintro a σ H5 ha ⟨v7,v8,rfl,P5⟩
   refine⟨λσ H6=>σ=[some (.ref s),some (.ref t),some (.int n),some (.int m),some (.int c),some (.str sg),some (.ref l),some (.int (0+(a:Int))),v8,none,none]/\ye K H t l n (a+1) k1 H6,?_,?_⟩
   ·refine⟨_,rfl,_,_,rfl,rfl,⟨by decide,by decide⟩,_,_,rfl,rfl,(by show(0:Int)<3;decide),_,_,rfl,rfl,_,rfl,?_⟩
    obtain⟨rs,rows,LM,sq,dg,nw,s5,HW⟩:=P5
    refine cD (λ_=>?_) λ_=>⟨rfl,rs,rows,LM,sq,λi j f hf=>⟨(dg i j f hf).1,λe h=>(dg i j f hf).2 e (by omega)⟩,nw,s5,HW⟩
    have ha':a<rows.length:=by rw[sq.1];exact ha
    have ha2:a<rs.length:=by rw[LM.len];exact ha'
    obtain⟨ps,PY,hPa⟩:=LM.row a _ _ (List.getElem?_eq_getElem ha2) (List.getElem?_eq_getElem ha')
    have la:=sq.2 rows[a] (List.getElem_mem ha')
    have hap:a<ps.length:=by rw[Paired.len hPa,la];exact ha
    obtain⟨f,ef,hf⟩:=Paired.at hPa (List.getElem?_eq_getElem hap)
    have KS:=(dg a a f ⟨_,List.getElem?_eq_getElem ha',ef⟩).2 rfl (Nat.le_refl _)
    have QV:=Wo.sub _ _ LM.at_
    have PX:=Wo.sub _ _ PY
    have hf':dR K H5 ps[a] [.int f.1,.int f.2]:=kB.same Wo.sub hf
    have ea:z0 (rs.map V.ref) (0+(a:Int))=some (.ref rs[a]):=by rw[Int.zero_add];exact ee (by rw[List.getElem?_map,List.getElem?_eq_getElem ha2];rfl)
    have eb:z0 (ps.map V.ref) (0+(a:Int))=some (.ref ps[a]):=by rw[Int.zero_add];exact ee (by rw[List.getElem?_map,List.getElem?_eq_getElem hap];rfl)
    refine⟨_,rfl,_,rfl,l,_,_,_,rfl,rfl,bI.of QV,ea,_,rfl,rs[a],_,_,_,rfl,rfl,bI.of PX,eb,ps[a],_,_,_,rfl,rfl,hf',rfl,_,_,rfl,rfl,_,rfl,_,rfl,l,_,_,_,rfl,rfl,bI.of QV,ea,_,rfl,rs[a],_,_,_,rfl,rfl,bI.of PX,eb,ps[a],_,_,_,rfl,rfl,hf',rfl,by show 2<=sizeLine;decide,λq hq=>?_⟩
    have nq:q≠t:=λz=>by rw[z,HW]at hq;cases hq
    have OY:ai H5 (upd H5 q (.tup [.int (f.1-4),.int f.2])):=ai.upd hq
    have LM1:=LM.same (Wo.same (t:=t) OY)
    have Xy:=Wo.same (t:=t) OY _ _ PY
    have Pd:rs[a]≠t:=Wo.ne PY
    refine⟨_,rfl,_,rfl,l,_,_,.ref rs[a],rfl,rfl,bI.of (OY _ _ QV),ea,_,rfl,rs[a],_,_,a,rfl,rfl,OY _ _ PX,by rw[Int.zero_add];exact EM (by rw[List.length_map];exact hap),rfl,rs,rows.set a (rows[a].set a (f.1-4,f.2)),?_,⟨by rw[List.length_set];exact sq.1,λr hr=>?_⟩,λi j g hg=>?_,nw,?_,?_⟩
    ·rw[Wo.ao Pd]
     exact LM1.put (List.getElem?_eq_getElem ha2) (List.getElem?_eq_getElem ha') Xy (Paired.dP hPa λ_ _ z=>z.same (Wo.same OY)) (dR.of (Wo.in nq ah))
    ·rcases List.mem_or_eq_of_mem_set hr with hr|hr
     ·exact sq.2 r hr
     ·rw[hr,List.length_set];exact la
    ·rcases Gv (List.getElem?_eq_getElem ha') hg with⟨rfl,rfl,rfl⟩|hg
     ·exact⟨⟨KS.1,KS.2.1,Ru (by have:=KS.2.2.1;show _<=f.1-4;omega) (by have:=KS.2.2.2;show f.1-4<=_;omega)⟩,λ_ z=>by omega⟩
     ·exact⟨(dg i j g hg).1,λe h=>(dg i j g hg).2 e (by omega)⟩
    ·rw[Wo.ao Pd]
     exact ai.at (s5.trans (Wo.same OY)) (Wo.free (nw _ (List.getElem_mem ha2)))
    ·rw[ao Pd.symm];exact OY _ _ HW
   rintro σ H6 ⟨rfl,P6⟩
   refine⟨_,rfl,_,rfl,by omega,by omega,?_⟩
   rw[show(0+(a:Int)).toNat=a by omega]
   refine jA (lo:=0) (n:=a) (λb σ H7=>∃v8,σ=[some (.ref s),some (.ref t),some (.int n),some (.int m),some (.int c),some (.str sg),some (.ref l),some (.int (0+(a:Int))),v8,none,none]/\ye K H t l n (a+1) k1 H7) ⟨_,rfl,P6⟩ ?_ (λσ H7 ⟨v8,h1,h2⟩=>⟨_,v8,h1,h2⟩)
   rintro b σ H7 hb ⟨v8,rfl,P7⟩
   obtain⟨rs,rows,LM,sq,dg,nw,s7,PU⟩:=P7
   refine⟨_,rfl,_,_,rfl,rfl,⟨by decide,by decide⟩,_,_,rfl,rfl,(by show(0:Int)<2;decide),rfl,_,rfl,?_⟩
   refine n8 (λ_=>?_) λ_=>⟨_,rfl,rs,rows,LM,sq,dg,nw,s7,PU⟩
   have ha':a<rows.length:=by rw[sq.1];exact ha
   have hb':b<rows.length:=by rw[sq.1];omega
   have ha2:a<rs.length:=by rw[LM.len];exact ha'
   have hb2:b<rs.length:=by rw[LM.len];exact hb'
   obtain⟨psa,PY,hPa⟩:=LM.row a _ _ (List.getElem?_eq_getElem ha2) (List.getElem?_eq_getElem ha')
   obtain⟨Zb,hrb,ZY⟩:=LM.row b _ _ (List.getElem?_eq_getElem hb2) (List.getElem?_eq_getElem hb')
   have la:=sq.2 rows[a] (List.getElem_mem ha')
   have lb:=sq.2 rows[b] (List.getElem_mem hb')
   have hab:a<Zb.length:=by rw[Paired.len ZY,lb];exact ha
   have hba:b<psa.length:=by rw[Paired.len hPa,la];omega
   obtain⟨f,ef,hf⟩:=Paired.at ZY (List.getElem?_eq_getElem hab)
   have QV:=Wo.sub _ _ LM.at_
   have Pd:rs[a]≠t:=Wo.ne PY
   refine⟨_,rfl,_,rfl,l,_,_,.ref rs[b],rfl,rfl,bI.of QV,(by rw[Int.zero_add];exact ee (by rw[List.getElem?_map,List.getElem?_eq_getElem hb2];rfl)),?_⟩
   refine⟨_,rfl,rs[b],_,_,.ref Zb[a],rfl,rfl,bI.of (Wo.sub _ _ hrb),(by rw[Int.zero_add];exact ee (by rw[List.getElem?_map,List.getElem?_eq_getElem hab];rfl)),?_⟩
   refine⟨_,rfl,_,rfl,l,_,_,.ref rs[a],rfl,rfl,bI.of QV,(by rw[Int.zero_add];exact ee (by rw[List.getElem?_map,List.getElem?_eq_getElem ha2];rfl)),?_⟩
   refine⟨_,rfl,rs[a],_,_,b,rfl,rfl,Wo.sub _ _ PY,by rw[Int.zero_add];exact EM (by rw[List.length_map];exact hba),_,rfl,rs,rows.set a (rows[a].set b f),?_,⟨by rw[List.length_set];exact sq.1,λr hr=>?_⟩,λi j g hg=>?_,nw,?_,?_⟩
   ·rw[Wo.ao Pd]
    exact LM.put (List.getElem?_eq_getElem ha2) (List.getElem?_eq_getElem ha') PY hPa hf
   ·rcases List.mem_or_eq_of_mem_set hr with hr|hr
    ·exact sq.2 r hr
    ·rw[hr,List.length_set];exact la
   ·rcases Gv (List.getElem?_eq_getElem ha') hg with⟨rfl,rfl,rfl⟩|hg
    ·exact⟨(dg _ _ _ ⟨_,List.getElem?_eq_getElem hb',ef⟩).1,λz=>by omega⟩
    ·exact dg i j g hg
   ·rw[Wo.ao Pd]
    exact ai.at s7 (Wo.free (nw _ (List.getElem_mem ha2)))
   ·rw[ao Pd.symm];exact PU
  rintro σ H5 ⟨v7,v8,rfl,rs,rows,LM,sq,dg,nw,w5,HW⟩
  have C5:wk K H5 s t ns k1:=hC.off w5 HW (by omega)
  refine⟨λσ H6=>∃o fo k2,σ=[some (.ref s),some (.ref t),some (.int n),some (.int m),some (.int c),some (.str sg),some (.ref l),v7,v8,some (.ref o),none]/\K2 fo/\TupAt (Wo t H6) o fo/\ai (Wo t H5) (Wo t H6)/\H6 t=some (.lst [.int k2])/\k1<=k2/\k2<=k1+2,?_,?_⟩
  ·refine⟨_,rfl,_,_,rfl,rfl,⟨by decide,by decide⟩,_,_,rfl,rfl,(by show(0:Int)<3;decide),_,_,rfl,rfl,_,rfl,?_⟩
   refine cD (λ_=>?_) λ_=>?_
   ·refine⟨_,rfl,_,_,rfl,rfl,⟨by decide,by decide⟩,_,_,rfl,rfl,(by show(0:Int)<4;decide),by show 2<=sizeLine;decide,λq hq=>?_⟩
    have nq:q≠t:=λz=>by rw[z,HW]at hq;cases hq
    exact⟨q,(m / 48 % 4,1),k1,rfl,⟨by show(1:Int)<=1;omega,by show(1:Int)<=999;omega,xY (by show _<=m / 48 % 4;omega) (by show m / 48 % 4<=_;omega)⟩,Wo.in nq ah,Wo.same (ai.upd hq),ai.upd hq _ _ HW,by omega,by omega⟩
   ·exact⟨_,rfl,_,rfl,_,rfl,s,t,ns,k1,c,rfl,C5,by omega,λf q H6 k3 KS w6 L8 QO QN hqn ZI=>⟨q,f,k3,rfl,KS.l,Wo.in (pZ ZI L8 (by intro z;cases z)) ZI,w6,L8,QO,QN⟩⟩
  rintro σ H6 ⟨o,fo,k2,rfl,Jh,ho,w6,L8,Up,Xf⟩
  have C6:wk K H6 s t ns k2:=C5.off w6 L8 (by omega)
  refine⟨λσ H7=>∃mo fm k3,σ=[some (.ref s),some (.ref t),some (.int n),some (.int m),some (.int c),some (.str sg),some (.ref l),v7,v8,some (.ref o),some (.ref mo)]/\K2 fm/\TupAt (Wo t H7) mo fm/\ai (Wo t H6) (Wo t H7)/\H7 t=some (.lst [.int k3])/\k2<=k3/\k3<=k2+2,?_,?_⟩
  ·refine⟨_,rfl,_,_,rfl,rfl,⟨by decide,by decide⟩,_,_,rfl,rfl,(by show(0:Int)<3;decide),_,_,rfl,rfl,_,rfl,?_⟩
   refine cD (λ_=>?_) λ_=>?_
   ·refine⟨_,rfl,_,_,rfl,rfl,⟨by decide,by decide⟩,_,_,rfl,rfl,(by show(0:Int)<4;decide),by show 2<=sizeLine;decide,λq hq=>?_⟩
    have nq:q≠t:=λz=>by rw[z,L8]at hq;cases hq
    exact⟨q,(m / 768 % 4,1),k2,rfl,⟨by show(1:Int)<=1;omega,by show(1:Int)<=999;omega,xY (by show _<=m / 768 % 4;omega) (by show m / 768 % 4<=_;omega)⟩,Wo.in nq ah,Wo.same (ai.upd hq),ai.upd hq _ _ L8,by omega,by omega⟩
   ·exact⟨_,rfl,_,rfl,_,rfl,s,t,ns,k2,c,rfl,C6,by omega,λf q H7 k3 KS w7 PU QO QN hqn ZH=>⟨q,f,k3,rfl,KS.l,Wo.in (pZ ZH PU (by intro z;cases z)) ZH,w7,PU,QO,QN⟩⟩
  rintro σ H7 ⟨mo,fm,k3,rfl,Ji,hm7,w7,PU,QO,QN⟩
  refine⟨_,rfl,_,rfl,_,rfl,_,rfl,by show 4<=sizeLine;decide,λr hr=>?_⟩
  have s8:ai H7 (upd H7 r (.tup [.str sg,.ref l,.ref o,.ref mo])):=ai.upd hr
  have w8:=Wo.same (t:=t) s8
  exact kk r l o mo rs rows fo fm sg _ k3 hsg hz ah (LM.same ((w6.trans w7).trans w8)) sq (Kh dg) ((ho.same w7).same w8) Jh (hm7.same w8) Ji (((w5.trans w6).trans w7).trans w8) (s8 _ _ PU) (by omega) (by omega)
end
section
variable{P:Program}{w:World}{K:PySem.W.Frag}{mg:Str->Option Value}{base:Heap}
theorem yz {iZ br jE bw:Addr} {gX aT iQ eZ:FuncData} {p:Pm} (T:Txt K mg p base) (fR:Dn K mg "_law_prices" mh l4 iZ gX) (aA:Dn K mg "_law_next" fZ l4 br aT) (cu:aI P w K mg base b8 1 br aT l4 (pN K)) (gG:Dn K mg "_law_table" nE KY jE iQ) (DP:aI P w K mg base b8 4 jE iQ KY (Fx K)) (dI:Dm K "__init__" "Prices.__init__" bT QM bw eZ) (yf:Mk K p.au bw) (tZ:aI P w K mg base b8 5 bw eZ QM (IL K p.au)):aI P w K mg base b8 7 iZ gX l4 (zA K p.au):=by
 refine fR.fn.ok jd (λvs H Q E h=>?_) (λcdv A outer s H vs Q E hr h=>?_)
 ·obtain⟨s,t,ns,k,rfl,_⟩:=h
  rfl
 ·obtain⟨s,t,ns,k,rfl,hC,hk,kk⟩:=h
  have hk0:=hC.k0
  refine⟨_,(aj (uw (az DP (hr.mono (by decide)) rfl gG.m gG.fn.kp gG.b .nil aN (aa (pv 0) (aa (pv 1) (aa (aE dM ak (aE cj (az cu (hr.mono (by decide)) rfl aA.m aA.fn.kp aA.b .nil aN (aa (pv 0) (aa (pv 1) af))) ak)) af)))) (pX (n:=4) rfl (bS (aM (i:=2) jd.nd rfl (Or.inl rfl)) (bS (aM (i:=3) jd.nd rfl (Or.inl rfl)) (bS (aM (i:=4) jd.nd rfl (Or.inl rfl)) (bS (aM (i:=5) jd.nd rfl (Or.inl rfl)) lD))))))
   (aq (aL (AE yf tZ (hr.mono (by decide)) rfl T.G4 dI.b .nil aN (aa (pv 2) (aa (pv 3) (aa (pv 4) (aa (pv 5) af)))))))),?_⟩
  refine⟨_,rfl,_,rfl,_,rfl,_,rfl,s,t,ns,k,rfl,hC,by omega,λm hm hm2=>?_⟩
  refine⟨_,_,rfl,rfl,(by show(0:Int)<4;decide),_,_,rfl,rfl,?_⟩
  obtain⟨n,hn⟩:∃n:Nat,1+m % 4=(n:Int):=⟨(1+m % 4).toNat,by omega⟩
  refine⟨s,t,ns,k+1,n,(by show [V.ref s,V.ref t,V.int (1+m % 4)]=_;rw[hn]),hC.step (by omega),by omega,by omega,by omega,λr l o mo rs rows fo fm sg H5 k5 hsg hz hr LM sq RL ho Jh hmo Ji w5 HW k51 k52=>?_⟩
  rw[Wo.set]at w5
  refine⟨r,_,rfl,dR.of hr,rfl,_,_,rfl,_,_,rfl,_,_,rfl,_,_,rfl,rfl,?_⟩
  refine⟨_,rfl,_,rfl,_,rfl,_,rfl,λx dx hx hdx Zn=>?_⟩
  have s6:ai H5 (upd (upd H5 dx (.own x)) x (.ins p.au dx [])):=ai.at (ai.upd hdx) hx
  have M0:upd (upd H5 dx (.own x)) x (.ins p.au dx []) x=some (.ins p.au dx []):=ah
  generalize upd (upd H5 dx (.own x)) x (.ins p.au dx [])=H6 at s6 M0 ⊢
  refine⟨x,dx,o,mo,sg,.lst l,rows,fo,fm,rfl,M0,hsg,by omega,((LM.same Wo.sub).same s6).WX,(by rw[hz];exact sq),λr hr f hf=>(RL r hr f hf).h,TupAt.fr ((ho.same Wo.sub).same s6),Jh.h,TupAt.fr ((hmo.same Wo.sub).same s6),Ji.h,λH7 P7 f7 nf7=>⟨rfl,?_⟩⟩
  have s7:ai H5 H7:=λb u e=>f7 b u (s6 b u e) λz=>by rw[z,hx]at e;cases e
  exact kk x H7 k5 (sg,yK rows,kD fo,kD fm) (P7.wo (s7 _ _ HW) (nf7 t (by rw[s6 _ _ HW];exact λz=>nomatch z))) (by show sg.cps.size<=4;omega) (Wo.back w5 HW hx) (w5.trans (Wo.same s7)) (s7 _ _ HW) (by omega) (by omega)
theorem Es {mJ br:Addr} {kO aT:FuncData} {p:Pm} (T:Txt K mg p base) (gC:Dn K mg "_law_row" qF R6 mJ kO) (aA:Dn K mg "_law_next" fZ l4 br aT) (cu:aI P w K mg base b8 1 br aT l4 (pN K)):aI P w K mg base b8 2 mJ kO R6 (IC K):=by
 refine gC.fn.ok jq (λvs H Q E h=>?_) (λcdv A outer s H vs Q E hr h=>?_)
 ·obtain⟨s,t,ns,k,n,sg,rfl,_⟩:=h
  rfl
 ·obtain⟨s,t,ns,k,n,sg,rfl,hC,hk,hn,hs0,hs1,kk⟩:=h
  have hk0:=hC.k0
  have Zt:sg.length<=sizeLine:=Nat.le_trans hs1 (by decide)
  refine⟨_,(aj (aD (i:=4) jq.nd rfl (Or.inl rfl) (az cu (hr.mono (by decide)) rfl aA.m aA.fn.kp aA.b .nil aN (aa (pv 0) (aa (pv 1) af))))
   (aj (aD (i:=5) jq.nd rfl (Or.inl rfl) (aE cj (aE dG (pv 4) ak) ak))
   (aj (aD (i:=6) jq.nd rfl (Or.inl rfl) bB)
   (aj (eW PassesOwn.never rfl (gi rfl T.jP (aa (aE cj (pv 4) (aE dM (pv 3) ak)) af)) (aM (i:=7) jq.nd rfl (Or.inl rfl)) (bJ (bO (aR pY (pv 5) ak (aO _)) (aq (aD (i:=4) jq.nd rfl (Or.inl rfl) (az cu (hr.mono (by decide)) rfl aA.m aA.fn.kp aA.b .nil aN (aa (pv 0) (aa (pv 1) af))))) aS)
   (aq (aD (i:=6) jq.nd rfl (Or.inl rfl) (aE oY (pv 6) (aW uJ (pv 2) (aE cj (aE dG (pv 4) ak) (aC (bz) rfl T.eV ck (aa (pv 2) af))) (λ_ _=>rfl)))))))
   (aq (aL (pv 6))))))),?_⟩
  refine⟨_,rfl,_,rfl,s,t,ns,k,rfl,hC,by omega,λm hm hm2=>?_⟩
  refine⟨_,rfl,_,_,rfl,rfl,⟨by decide,by decide⟩,_,_,rfl,rfl,(by show(0:Int)<4;decide),?_⟩
  have hm0:=Int.emod_nonneg m (show((n:Int)+1)≠0 by omega)
  have hm1:=Int.emod_lt_of_pos m (show(0:Int)<(n:Int)+1 by omega)
  refine⟨_,rfl,_,rfl,_,_,rfl,rfl,_,_,rfl,rfl,(by show(0:Int)<(n:Int)+1;omega),_,rfl,by omega,by omega,?_⟩
  have w1:ai (Wo t H) (Wo t (upd H t (.lst [.int (k+1)]))):=by rw[Wo.set];exact ai.refl _
  refine jA (lo:=0) (n:=(m % ((n:Int)+1)).toNat) (λi σ H2=>∃(m1 k1:Int) (f:Str) (v7:Option V),σ=[some (.ref s),some (.ref t),some (.str sg),some (.int n),some (.int m1),some (.int (m / 97 % 4)),some (.str f),v7]/\0<=m1/\Of sg f/\f.cps.size=i/\ai (Wo t H) (Wo t H2)/\H2 t=some (.lst [.int k1])/\k<=k1/\k1<=k+1+(i:Int))
   ⟨m,k+1,_,_,rfl,hm,(λc hc=>by cases hc),rfl,w1,ah,by omega,by omega⟩ ?_ ?_
  ·rintro i σ H2 hi ⟨m1,k1,f,v7,rfl,SV,of,hf,w2,DX,QS,Uq⟩
   refine⟨λσ H3=>∃(m2 k2:Int),σ=[some (.ref s),some (.ref t),some (.str sg),some (.int n),some (.int m2),some (.int (m / 97 % 4)),some (.str f),some (.int (0+(i:Int)))]/\0<=m2/\ai (Wo t H) (Wo t H3)/\H3 t=some (.lst [.int k2])/\k<=k2/\k2<=k1+1,?_,?_⟩
   ·refine⟨_,rfl,_,_,rfl,rfl,_,rfl,?_⟩
    refine cD (λ_=>?_) λ_=>⟨m1,k1,rfl,SV,w2,DX,QS,by omega⟩
    refine⟨_,rfl,_,rfl,s,t,ns,k1,rfl,hC.off w2 DX (by omega),by omega,λm3 h3 _=>⟨m3,k1+1,rfl,h3,by rw[Wo.set];exact w2,ah,by omega,by omega⟩⟩
   rintro σ H3 ⟨m2,k2,rfl,XM,w3,Mb,Up,Xf⟩
   have i1:=Int.emod_nonneg (m2 / 5) (show((sg.cps.size:Nat):Int)≠0 by omega)
   have i2:=Int.emod_lt_of_pos (m2 / 5) (show(0:Int)<((sg.cps.size:Nat):Int) by omega)
   obtain⟨j,hj⟩:∃j:Nat,(m2 / 5) % ((sg.cps.size:Nat):Int)=(j:Int):=⟨_,(Int.toNat_of_nonneg i1).symm⟩
   have hjl:j<sg.cps.toList.length:=by rw[Array.length_toList];omega
   refine⟨_,rfl,_,rfl,_,rfl,_,_,rfl,rfl,⟨by decide,by decide⟩,_,rfl,_,_,rfl,⟨Zt,rfl⟩,_,_,rfl,rfl,(by show(0:Int)<(sg.cps.size:Int);omega),sg,_,sg.cps.toList[j],rfl,rfl,Zt,?_,_,_,rfl,rfl,?_,?_⟩
   ·show z0 sg.cps.toList ((m2 / 5) % ((sg.cps.size:Nat):Int))=_
    rw[hj]
    exact ee (List.getElem?_eq_getElem hjl)
   ·show f.cps.size+1<=sizeLine
    exact Nat.le_trans (show _<=100 by omega) (by decide)
   ·refine⟨m2,k2,_,_,rfl,XM,λc hc=>?_,?_,w3,Mb,Up,by omega⟩
    ·have e:(f.cps++ #[sg.cps.toList[j]]).toList=f.cps.toList++[sg.cps.toList[j]]:=by simp
     have hc':c∈f.cps.toList++[sg.cps.toList[j]]:=by rw[←e];exact hc
     rcases List.mem_append.mp hc' with hc|hc
     ·exact of c hc
     ·rw[List.mem_singleton.mp hc];exact List.getElem_mem hjl
    ·show(f.cps++ #[sg.cps.toList[j]]).size=i+1
     rw[Array.size_append,hf]
     rfl
  ·rintro σ H2 ⟨m1,k1,f,v7,rfl,SV,of,hf,w2,DX,QS,Uq⟩
   exact⟨_,rfl,kk f H2 k1 of (by omega) w2 DX QS (by omega)⟩
theorem yD {i0:Addr} {gY:FuncData} {p:Pm} (T:Txt K mg p base) (fS:Dn K mg "_law_manner" mj ["_law_m"] i0 gY)  :aI P w K mg base b8 1 i0 gY ["_law_m"] Cj:=by
 refine fS.fn.ok yr (λvs H Q E h=>?_) (λcdv A outer s H vs Q E hr h=>?_)
 ·obtain⟨m,rfl,_⟩:=h
  rfl
 ·obtain⟨m,rfl,hm,kk⟩:=h
  refine⟨_,(aq (aL (aW bC (eX (aa bB (aa bB (aa bB (aa bB af))))) (aE cj (pv 0) ak) (λ_ _=>rfl)))),?_⟩
  refine⟨by show 4<=sizeLine;decide,λq hq=>⟨_,rfl,_,_,rfl,rfl,(by show(0:Int)<4;decide),?_⟩⟩
  obtain⟨x,hx,hi⟩:∃x:Str,z0 [V.str (Str.ofString "whole"),.str (Str.ofString "within"),.str (Str.ofString "over"),.str (Str.ofString "stretch")] (m % 4)=some (.str x)/\jz x=true:=by
   have e:m % 4=0\/m % 4=1\/m % 4=2\/m % 4=3:=by omega
   rcases e with e|e|e|e<;>rw[e]
   ·exact⟨_,rfl,by decide +kernel⟩
   ·exact⟨_,rfl,by decide +kernel⟩
   ·exact⟨_,rfl,by decide +kernel⟩
   ·exact⟨_,rfl,by decide +kernel⟩
  exact⟨q,_,_,_,rfl,rfl,bI.of ah,hx,kk x _ hi (ai.upd hq)⟩
end
section
variable{P:Program}{w:World}{K:PySem.W.Frag}{mg:Str->Option Value}{base:Heap}
theorem xq {cZ:Addr} {cy:FuncData} {p:Pm} (T:Txt K mg p base) (aX:Dn K mg "_law_same" kH KW cZ cy)  :aI P w K mg base b8 1 cZ cy KW (sL K 0):=by
 refine aX.fn.ok uW (λvs H Q E h=>?_) (λcdv A outer s H vs Q E hr h=>?_)
 ·obtain⟨v,u,rfl,_⟩:=h
  rfl
 ·obtain⟨v,u,rfl,hE,k⟩:=h
  refine⟨_,(aj (bO (PW.pt (IZ (iG (aC (bD) rfl T.bx aZ (aa (pv 1) (aa (gf (v:=.ty "list") rfl T.uf qO rfl) af)))) (Eo (iG (aC (bD) rfl T.bx aZ (aa (pv 1) (aa (gf (v:=.ty "tuple") rfl T.qB oN rfl) af))))))) fq aS)
   (aj (bO (aR Ep (pv 1) oW (by with_unfolding_all rfl)) fq aS)
   (aj (bO (iG (aC (bD) rfl T.bx aZ (aa (pv 1) (aa (gf (v:=.ty "str") rfl T.Fo Bo rfl) af)))) (aq (aL (j4 (aC (bD) rfl T.bx aZ (aa (pv 0) (aa (gf (v:=.ty "str") rfl T.Fo Bo rfl) af))) (j3 (cC cH (pv 0) (pv 1) (aO _)))))) aS)
   (aq (aL (j4 (aC (bD) rfl T.bx aZ (aa (pv 0) (aa (gf (v:=.ty "int") rfl T.Fq Bq rfl) af))) (j4 (Jc (aC (bD) rfl T.bx aZ (aa (pv 0) (aa (gf (v:=.ty "bool") rfl T.Ic Gr rfl) af)))) (j3 (cC cH (pv 0) (pv 1) (aO _)))))))))),?_⟩
  rcases hE with⟨x,rfl,rfl⟩|⟨n,rfl,rfl⟩
  ·refine⟨_,rfl,_,_,_,_,rfl,.inl (.str x),tE,_,rfl,jr ?_⟩
   refine⟨_,rfl,_,_,_,_,rfl,.inl (.str x),q8,_,rfl,jr ?_⟩
   refine⟨_,rfl,rfl,_,rfl,jr ?_⟩
   refine⟨_,rfl,_,_,_,_,rfl,.inl (.str x),j7,_,rfl,ng ?_⟩
   refine⟨_,rfl,_,_,_,_,rfl,.inl (.str x),j7,_,rfl,ng ?_⟩
   refine⟨_,rfl,_,rfl,rfl,?_⟩
   rw[decide_eq_true rfl]
   exact k H (ai.refl H)
  ·refine⟨_,rfl,_,_,_,_,rfl,.inl (.int n),tF,_,rfl,jr ?_⟩
   refine⟨_,rfl,_,_,_,_,rfl,.inl (.int n),rj,_,rfl,jr ?_⟩
   refine⟨_,rfl,rfl,_,rfl,jr ?_⟩
   refine⟨_,rfl,_,_,_,_,rfl,.inl (.int n),ve,_,rfl,jr ?_⟩
   refine⟨_,rfl,_,_,_,_,rfl,.inl (.int n),j7,_,rfl,ng ?_⟩
   refine⟨_,rfl,_,_,_,_,rfl,.inl (.int n),tG,_,rfl,_,rfl,ng ?_⟩
   refine⟨_,rfl,_,rfl,rfl,?_⟩
   rw[decide_eq_true rfl]
   exact k H (ai.refl H)
theorem qX {d:Nat} {cZ:Addr} {cy:FuncData} {p:Pm} (T:Txt K mg p base) (aX:Dn K mg "_law_same" kH KW cZ cy) (jy:aI P w K mg base b8 (d+1) cZ cy KW (sL K d)):aI P w K mg base b8 (d+2) cZ cy KW (sL K (d+1)):=by
 refine aX.fn.ok uW (λvs H Q E h=>?_) (λcdv A outer s H vs Q E hr h=>?_)
 ·obtain⟨v,u,rfl,_⟩:=h
  rfl
 ·obtain⟨v,u,rfl,hE,k⟩:=h
  refine⟨_,(aj (bO (PW.pt (IZ (iG (aC (bD) rfl T.bx aZ (aa (pv 1) (aa (gf (v:=.ty "list") rfl T.uf qO rfl) af)))) (Eo (iG (aC (bD) rfl T.bx aZ (aa (pv 1) (aa (gf (v:=.ty "tuple") rfl T.qB oN rfl) af))))))) (aj (bO (PW.pt (IZ (aR xj (aC (bD) rfl T.bx aZ (aa (pv 0) (aa (gf (v:=.ty "list") rfl T.uf qO rfl) af))) (aC (bD) rfl T.bx aZ (aa (pv 1) (aa (gf (v:=.ty "list") rfl T.uf qO rfl) af))) (aO _)) (Eo (aR xj (aC (bD) rfl T.bx aZ (aa (pv 0) (aa (gf (v:=.ty "tuple") rfl T.qB oN rfl) af))) (aC (bD) rfl T.bx aZ (aa (pv 1) (aa (gf (v:=.ty "tuple") rfl T.qB oN rfl) af))) (aO _))))) (aq (aL CD)) aS)
   (aq (aL (j4 (cC cH (aC (bz) rfl T.eV ck (aa (pv 0) af)) (aC (bz) rfl T.eV ck (aa (pv 1) af)) (aO _)) (j3 (aC (vo rfl) rfl T.MC Ky (aa (nM (N:=["_law_a","_law_b"]) rfl (λ_=>⟨[],cG.plain (by decide +kernel) rfl (by decide +kernel) (by decide +kernel)⟩) (Az rfl rfl T.Fl (aa (pv 0) (aa (pv 1) af))) (λ_ _ _ _ _ _ _=>(AA (K':=K) (n:=2) rfl rfl (bS (aM (i:=0) (show(["_law_a","_law_b"]:List Str).Nodup by decide +kernel) rfl (Or.inl rfl)) (bS (aM (i:=1) (show(["_law_a","_law_b"]:List Str).Nodup by decide +kernel) rfl (Or.inl rfl)) lD)))) (λ_ _ _ _ _ _ _=>(az jy (hr.mono (by omega)) rfl aX.m aX.fn.kp aX.b .nil aN (aa (pv 0) (aa (pv 1) af))))) af))))))) aS)
   (aj (bO (aR Ep (pv 1) oW (by with_unfolding_all rfl)) fq aS)
   (aj (bO (iG (aC (bD) rfl T.bx aZ (aa (pv 1) (aa (gf (v:=.ty "str") rfl T.Fo Bo rfl) af)))) (aq (aL (j4 (aC (bD) rfl T.bx aZ (aa (pv 0) (aa (gf (v:=.ty "str") rfl T.Fo Bo rfl) af))) (j3 (cC cH (pv 0) (pv 1) (aO _)))))) aS)
   (aq (aL (j4 (aC (bD) rfl T.bx aZ (aa (pv 0) (aa (gf (v:=.ty "int") rfl T.Fq Bq rfl) af))) (j4 (Jc (aC (bD) rfl T.bx aZ (aa (pv 0) (aa (gf (v:=.ty "bool") rfl T.Ic Gr rfl) af)))) (j3 (cC cH (pv 0) (pv 1) (aO _)))))))))),?_⟩
  rcases hE with(⟨x,rfl,rfl⟩|⟨n,rfl,rfl⟩)|⟨p,q,xs,ys,rfl,rfl,hp,hq,hlen,SW,hall⟩
  ·refine⟨_,rfl,_,_,_,_,rfl,.inl (.str x),tE,_,rfl,jr ?_⟩
   refine⟨_,rfl,_,_,_,_,rfl,.inl (.str x),q8,_,rfl,jr ?_⟩
   refine⟨_,rfl,rfl,_,rfl,jr ?_⟩
   refine⟨_,rfl,_,_,_,_,rfl,.inl (.str x),j7,_,rfl,ng ?_⟩
   refine⟨_,rfl,_,_,_,_,rfl,.inl (.str x),j7,_,rfl,ng ?_⟩
   refine⟨_,rfl,_,rfl,rfl,?_⟩
   rw[decide_eq_true rfl]
   exact k H (ai.refl H)
  ·refine⟨_,rfl,_,_,_,_,rfl,.inl (.int n),tF,_,rfl,jr ?_⟩
   refine⟨_,rfl,_,_,_,_,rfl,.inl (.int n),rj,_,rfl,jr ?_⟩
   refine⟨_,rfl,rfl,_,rfl,jr ?_⟩
   refine⟨_,rfl,_,_,_,_,rfl,.inl (.int n),ve,_,rfl,jr ?_⟩
   refine⟨_,rfl,_,_,_,_,rfl,.inl (.int n),j7,_,rfl,ng ?_⟩
   refine⟨_,rfl,_,_,_,_,rfl,.inl (.int n),tG,_,rfl,_,rfl,ng ?_⟩
   refine⟨_,rfl,_,rfl,rfl,?_⟩
   rw[decide_eq_true rfl]
   exact k H (ai.refl H)
  ·have tp:∀{H':Hp} {a:Addr} {zs:List V},dR K H' a zs->(tR K H' (.ref a) (.type "tuple")\/∃b ws,V.ref a= .ref b/\dR K H' b ws/\Value.type "tuple" = .type "tuple"):=λ{H' a zs} z=>.inr ⟨a,zs,rfl,z,rfl⟩
   refine⟨_,rfl,_,_,_,_,rfl,tp hq,m5,_,rfl,jr ?_⟩
   refine⟨_,rfl,_,_,_,_,rfl,tp hq,j7,_,rfl,ng ?_⟩
   refine⟨_,rfl,_,_,_,_,rfl,tp hp,m5,_,rfl,_,_,_,_,rfl,tp hq,m5,rfl,_,rfl,jr ?_⟩
   refine⟨_,rfl,_,_,_,_,rfl,tp hp,j7,_,rfl,_,_,_,_,rfl,tp hq,j7,rfl,_,rfl,jr ?_⟩
   refine⟨_,rfl,_,_,rfl,.inr ⟨_,hp,rfl⟩,_,rfl,_,_,rfl,.inr ⟨_,hq,rfl⟩,rfl,_,rfl,?_⟩
   refine n8 (λ_=>?_) λz=>absurd (congrArg Nat.cast hlen) z
   refine⟨_,rfl,_,rfl,.tup p,.tup q,_,_,rfl,hp,hq,λl hl=>?_⟩
   refine Bh xs.length (λ_=>V.bl true) hl (Nat.lt_of_le_of_lt SW (by decide)) (λi H2 s2 hi=>?_) (λH2 s2=>⟨_,_,ai.tup s2 hp,ai.tup s2 hq,.inl (Nat.le_refl _)⟩) (λi z H2 H3 R s2 hi hy hR=>?_) λH2 s2 hl2=>?_
   ·exact⟨_,_,_,_,ai.tup s2 hp,ai.tup s2 hq,List.getElem?_eq_getElem hi,List.getElem?_eq_getElem (by rw[←hlen];exact hi)⟩
   ·obtain⟨p',x',y',rfl,Uw,rfl,hxy⟩:=hy
    obtain⟨ex,ey⟩:=hxy _ _ (ai.tup s2 hp) (ai.tup s2 hq)
    refine⟨p',_,rfl,dR.of ah,rfl,_,_,rfl,_,_,rfl,rfl,Kp.rep _ _,?_⟩
    exact⟨_,rfl,_,rfl,x',y',rfl,(hall i x' y' ex ey).same (s2.trans (ai.upd Uw)),λH5 s5=>hR H5 ((ai.upd Uw).trans s5)⟩
   ·refine⟨l,(List.range xs.length).map λ_=>true,rfl,bI.of (by rw[hl2,List.map_map];rfl),?_⟩
    rw[show((List.range xs.length).map λ_=>true).all id=true from List.all_eq_true.mpr λb hb=>by
     obtain⟨_,_,rfl⟩:=List.mem_map.mp hb
     rfl]
    exact k H2 s2
theorem Et {mK fO cN:Addr} {kP dX b9:FuncData} {p:Pm} (T:Txt K mg p base) (gD:Dn K mg "_law_gap" qG R5 mK kP) (bA:Dn K mg "more_cost" lK l5 fO dX) (lN:aI P w K mg base b8 2 fO dX l5 (Ef K p.au)) (bE:Dn K mg "opening_cost" iE l5 cN b9) (m8:aI P w K mg base b8 2 cN b9 l5 (uq K p.au)):aI P w K mg base b8 3 mK kP R5 (MK K p.au):=by
 refine gD.fn.ok Ej (λvs H Q E h=>?_) (λcdv A outer s H vs Q E hr h=>?_)
 ·obtain⟨x,T1,b,rfl,_⟩:=h
  rfl
 ·obtain⟨x,T1,b,rfl,hP,kk⟩:=h
  refine⟨_,(aq (aL (oB (iG (pv 1)) (az lN (hr.mono (by decide)) rfl bA.m bA.fn.kp bA.b .nil aN (aa (pv 0) af)) (aE dM (az m8 (hr.mono (by decide)) rfl bE.m bE.fn.kp bE.b .nil aN (aa (pv 0) af)) (az lN (hr.mono (by decide)) rfl bA.m bA.fn.kp bA.b .nil aN (aa (pv 0) af)))))),?_⟩
  refine⟨_,rfl,_,rfl,?_⟩
  cases b with
  |true=>exact ng ⟨_,rfl,x,T1.1,T1.2.1,T1.2.2.1,T1.2.2.2,rfl,hP,by rw[if_pos rfl]at kk;exact kk⟩
  |false=>exact jr ⟨_,rfl,x,T1.1,T1.2.1,T1.2.2.1,T1.2.2.2,rfl,hP,_,rfl,x,T1.1,T1.2.1,T1.2.2.1,T1.2.2.2,rfl,hP,_,_,rfl,rfl,by rw[if_neg Bool.false_ne_true]at kk;exact kk⟩
theorem uz {fF:Addr} {eN:FuncData} {p:Pm} (T:Txt K mg p base) (cU:Dn K mg "_law_may_begin" jl R4 fF eN)  :aI P w K mg base b8 1 fF eN R4 FD:=by
 refine cU.fn.ok uv (λvs H Q E h=>?_) (λcdv A outer s H vs Q E hr h=>?_)
 ·obtain⟨m,i,j,rfl,_⟩:=h
  rfl
 ·obtain⟨m,i,j,rfl,hm,kk⟩:=h
  refine⟨_,(aj (bO (aR cH (pv 0) bB (aO _)) (aq (aL (j4 (cC cH (pv 1) ak (aO _)) (j3 (cC cH (pv 2) ak (aO _)))))) aS)
   (aj (bO (aR cH (pv 0) bB (aO _)) (aq (aL (cC cH (pv 1) ak (aO _)))) aS)
   (aq (aL (MQ (cC cH (pv 0) bB (aO _)) (j3 (cC cH (pv 2) ak (aO _)))))))),?_⟩
  unfold vK at kk
  refine⟨_,rfl,rfl,_,rfl,C7 (λh1=>?_) λh1=>?_⟩
  ·rw[if_pos h1]at kk
   refine⟨_,rfl,rfl,_,rfl,n8 (λhi=>⟨_,rfl,rfl,?_⟩) λhi=>?_⟩
   ·rw[Dt]
    rwa [decide_eq_true hi,Bool.true_and]at kk
   ·rwa [decide_eq_false hi,Bool.false_and]at kk
  rw[if_neg h1]at kk
  refine⟨_,rfl,rfl,_,rfl,C7 (λh2=>?_) λh2=>?_⟩
  ·rw[if_pos h2]at kk
   exact⟨_,rfl,rfl,by rw[Dt];exact kk⟩
  rw[if_neg h2]at kk
  refine⟨_,rfl,rfl,_,rfl,C7 (λh3=>?_) λh3=>?_⟩
  ·rw[if_neg (λz=>by rw[h3]at z;exact absurd z (by decide +kernel))]at kk
   exact kk
  ·have h4:m=Str.ofString "over" :=by
    rcases PN hm with z|z|z|z
    ·exact absurd z h1
    ·exact absurd z h2
    ·exact z
    ·exact absurd z h3
   rw[if_pos h4]at kk
   exact⟨_,rfl,rfl,by rw[Dt];exact kk⟩
theorem xw {ie:Addr} {gq:FuncData} {p:Pm} (T:Txt K mg p base) (eE:Dn K mg "_law_may_end" lu R3 ie gq)  :aI P w K mg base b8 1 ie gq R3 FA:=by
 refine eE.fn.ok wV (λvs H Q E h=>?_) (λcdv A outer s H vs Q E hr h=>?_)
 ·obtain⟨m,f,s,i,j,rfl,_⟩:=h
  rfl
 ·obtain⟨m,f,s,i,j,rfl,hm,hf,hs,kk⟩:=h
  have lf:f.length<=sizeLine:=Nat.le_trans hf (by decide)
  have ls:s.length<=sizeLine:=Nat.le_trans hs (by decide)
  refine⟨_,(aj (bO (aR cH (pv 0) bB (aO _)) (aq (aL (j4 (cC cH (pv 3) (aC (bz) rfl T.eV ck (aa (pv 1) af)) (aO _)) (j3 (cC cH (pv 4) (aC (bz) rfl T.eV ck (aa (pv 2) af)) (aO _)))))) aS)
   (aq (aL (MQ (cC cH (pv 0) bB (aO _)) (j3 (cC cH (pv 3) (aC (bz) rfl T.eV ck (aa (pv 1) af)) (aO _))))))),?_⟩
  unfold AY at kk
  refine⟨_,rfl,rfl,_,rfl,C7 (λh1=>?_) λh1=>?_⟩
  ·rw[if_pos h1]at kk
   refine⟨_,rfl,_,rfl,_,_,rfl,⟨lf,rfl⟩,rfl,_,rfl,n8 (λhi=>⟨_,rfl,_,rfl,_,_,rfl,⟨ls,rfl⟩,rfl,?_⟩) λhi=>?_⟩
   ·rw[Dt]
    rwa [decide_eq_true (show i=(f.cps.size:Int) from hi),Bool.true_and]at kk
   ·rwa [decide_eq_false (show ¬i=(f.cps.size:Int) from hi),Bool.false_and]at kk
  rw[if_neg h1]at kk
  refine⟨_,rfl,rfl,_,rfl,C7 (λh3=>?_) λh3=>?_⟩
  ·rw[if_pos h3]at kk
   exact kk
  ·rw[if_neg h3]at kk
   exact⟨_,rfl,_,rfl,_,_,rfl,⟨lf,rfl⟩,rfl,by rw[Dt];exact kk⟩
end
section
variable{P:Program}{w:World}{K:PySem.W.Frag}{mg:Str->Option Value}{base:Heap}
theorem yC {dY:Addr} {c7:FuncData} {p:Pm} (T:Txt K mg p base) (bu:Dn K mg "_law_merged" jY Py dY c7)  :aI P w K mg base b8 1 dY c7 Py wN:=by
 refine bu.fn.ok qU (λvs H Q E h=>?_) (λcdv A outer s H vs Q E hr h=>?_)
 ·obtain⟨l,os,rfl,_⟩:=h
  rfl
 ·obtain⟨l,os,rfl,hO,hlen,kk⟩:=h
  obtain⟨ps,hps,pp⟩:=id hO
  have hpl:=Paired.len pp
  have at_:∀i,i<ps.length->ps[i]? =some (ps.getD i 0)/\os[i]? =some (os.getD i (0,0))/\H (ps.getD i 0)=some (pO (os.getD i (0,0))):=λi hi=>by
   have e:ps[i]? =some (ps.getD i 0):=by rw[List.getD_eq_getElem?_getD,List.getElem?_eq_getElem hi];rfl
   obtain⟨q,hq,hpq⟩:=GP.Paired.at pp e
   have eq:=j9 (d:=(0,0)) hq
   exact⟨e,by rw[eq];exact hq,by rw[eq];exact hpq⟩
  refine⟨_,(aj (bO (aR cH (aC (bz) rfl T.eV ck (aa (pv 0) af)) ak (aO _)) (aq (aL oW)) aS)
   (aj (aD (i:=1) qU.nd rfl (Or.inr rfl) (aC (zS rfl) rfl T.Fp Bp (aa (nM (N:=["_law_one"]) rfl (λ_=>⟨[],cG.plain (by decide +kernel) rfl (by decide +kernel) (by decide +kernel)⟩) (jn (pv 0)) (λ_ _ _ _ _ _ _=>(aM (i:=0) (show(["_law_one"]:List Str).Nodup by decide +kernel) rfl (Or.inl rfl))) (λ_ _ _ _ _ _ _=>(aW (qM (K':=K) rfl) (pv 0) ak (λ_ _=>rfl)))) af)))
   (aq (aL (bG (aa (pv 1) (aa (aC (zR (K':=K) rfl rfl) rfl T.MB Kw (aa (oE (N:=["_law_one","_law_least"]) rfl (cG.rm (nt:=1) (ix:=[1]) rfl (by decide +kernel) (by decide +kernel) (by kernel_rfl) rfl (by kernel_rfl)) (jn (pv 0)) (λ_ _ _ _ _ _ _=>(aM (i:=0) (show(["_law_one","_law_least"]:List Str).Nodup by decide +kernel) rfl (Or.inl rfl))) (λ_ _ _ _ _ _ _=>(aW (qM (K':=K) rfl) (pv 0) ak (λ_ _=>rfl))) (λ_ _ _ _ _ _ _=>(aR cH (aW (qM (K':=K) rfl) (pv 0) ak (λ_ _=>rfl)) (pv 1) (aO _)))) af)) af))))))),?_⟩
  refine⟨_,rfl,_,_,rfl,.inl ⟨_,bI.of hps,rfl⟩,rfl,_,rfl,?_⟩
  rw[kg]
  refine cD (λz=>?_) λz=>?_
  ·have e:os=[]:=by
    rw[List.length_map]at z
    exact List.eq_nil_of_length_eq_zero (by omega)
   subst e
   exact kk .iz H (ai.refl _) rfl
  have hne:os≠[]:=λe=>z (by rw[List.length_map,hpl,e];rfl)
  refine⟨_,rfl,l,rfl,⟨_,bI.of hps⟩,λlc Mc=>?_⟩
  refine Bh ps.length (λi=>.int (os.getD i (0,0)).1) Mc (Nat.lt_of_le_of_lt (show ps.length<=1000 by omega) (by decide)) (λi H3 s3 hi=>?_) (λH3 s3=>?_) (λi y H3 H4 R s3 hi hy hR=>?_) λH3 s3 hl3=>?_
  ·exact⟨_,_,bI.of (s3 _ _ hps),by rw[List.getElem?_map,(at_ i hi).1];rfl⟩
  ·exact⟨_,bI.of (s3 _ _ hps),by rw[List.length_map];exact Nat.le_refl _⟩
  ·obtain⟨rfl,hy⟩:=hy
   have ey:=hy _ (bI.of (s3 _ _ hps))
   obtain⟨e1,e2,e3⟩:=at_ i hi
   rw[List.getElem?_map,e1]at ey
   cases ey
   exact⟨Kp.An,_,rfl,_,_,_,_,rfl,rfl,dR.of (s3 _ _ e3),rfl,hR _ (ai.refl _)⟩
  rw[hpl,Ln os (0,0) (λo=>V.int o.1)]at hl3
  have XW:H3 lc=some (.lst ((os.map (·.1)).map V.int)):=by rw[hl3,List.map_map];rfl
  refine⟨lc,os.map (·.1),rfl,bI.of XW,λz=>hne (List.map_eq_nil_iff.mp z),_,rfl,_,rfl,l,rfl,⟨_,bI.of (s3 _ _ hps)⟩,λld XR=>?_⟩
  refine tN ps.length (λi=>decide ((os.getD i (0,0)).1=jg (os.map (·.1)))) (λi=>.int ((os.getD i (0,0)).2:Nat)) XR (Nat.lt_of_le_of_lt (show ps.length<=1000 by omega) (by decide)) (λi H4 s4 hi=>?_) (λH4 s4=>?_) (λi y H4 H5 R S s4 hi hy hR hZ=>?_) λH4 s4 M7=>?_
  ·exact⟨_,_,bI.of (s4 _ _ (s3 _ _ hps)),by rw[List.getElem?_map,(at_ i hi).1];rfl⟩
  ·exact⟨_,bI.of (s4 _ _ (s3 _ _ hps)),by rw[List.length_map];exact Nat.le_refl _⟩
  ·obtain⟨rfl,hy⟩:=hy
   have ey:=hy _ (bI.of (s4 _ _ (s3 _ _ hps)))
   obtain⟨e1,e2,e3⟩:=at_ i hi
   rw[List.getElem?_map,e1]at ey
   cases ey
   have e3':=s4 _ _ (s3 _ _ e3)
   refine⟨Kp.An,_,rfl,_,_,_,_,rfl,rfl,dR.of e3',rfl,_,rfl,rfl,_,rfl,?_⟩
   rw[kg]
   refine cD (λz=>?_) λz=>hZ (decide_eq_false z) _ (ai.refl _)
   exact⟨_,rfl,_,_,_,_,rfl,rfl,dR.of e3',rfl,hR (decide_eq_true z) _ (ai.refl _)⟩
  rw[hpl,xW os (0,0) (λo=>decide (o.1=jg (os.map (·.1)))) (λo=>V.int (o.2:Nat))]at M7
  refine⟨ld,(os.filter λo=>decide (o.1=jg (os.map (·.1)))).map (λo=>(o.2:Int)),rfl,bI.of (by rw[M7,List.map_map];rfl),by show 2<=sizeLine;decide,λr hr=>?_⟩
  refine kk (.ref r) _ ((s3.trans s4).trans (ai.upd hr)) ?_
  unfold GP.mg
  rw[if_neg hne]
  refine⟨r,rfl,?_⟩
  rw[ah,wL]
  rfl
theorem AQ {jH:Addr} {iT:FuncData} {p:Pm} (T:Txt K mg p base) (bX:Dn K mg "_law_grown" nH R1 jH iT)  :aI P w K mg base b8 1 jH iT R1 FE:=by
 refine bX.fn.ok As (λvs H Q E h=>?_) (λcdv A outer s H vs Q E hr h=>?_)
 ·obtain⟨l,q,G,cs,i,j,rfl,_⟩:=h
  rfl
 ·obtain⟨l,q,G,cs,i,j,rfl,⟨vs,hvs,p3⟩,hq,kk⟩:=h
  refine⟨_,(aq (aL (oE (N:=Xa) rfl (λ_=>⟨[],cG.plain (by decide +kernel) rfl (by decide +kernel) (by decide +kernel)⟩) (Az rfl rfl T.Fl (aa (pv 0) (aa (pv 1) af))) (λ_ _ _ _ _ _ _=>(AA (K':=K) (n:=2) rfl rfl (bS (aM (i:=0) (show(Xa:List Str).Nodup by decide +kernel) rfl (Or.inl rfl)) (bS (aM (i:=1) (show(Xa:List Str).Nodup by decide +kernel) rfl (Or.inl rfl)) lD)))) (λ_ _ _ _ _ _ _=>(bG (aa (aE dM (aW (qM (K':=K) rfl) (pv 0) ak (λ_ _=>rfl)) (pv 1)) (aa (aW (qM (K':=K) rfl) (pv 0) ak (λ_ _=>rfl)) af)))) (λ_ _ _ _ _ _ _=>(aR AH (pv 0) oW (by with_unfolding_all rfl)))))),?_⟩
  refine⟨_,rfl,_,rfl,.lst l,.lst q,_,_,rfl,bI.of hvs,bI.of hq,λlc Mc=>?_⟩
  have hl3:vs.length=3:=Paired.len p3
  refine Kq 3 (λk=>(G (i,j,pA.getD k 0)).isSome) (λk=>pO (((G (i,j,pA.getD k 0)).map λo=>(o.1+cs (pA.getD k 0),o.2)).getD (0,0))) Mc (by decide) (λk H4 s4 hk=>?_) (λH4 s4=>?_) (λk y H4 H5 R S s4 hk hy hR hZ=>?_) λH4 rs s4 M7 hrs=>?_
  ·exact⟨_,_,_,_,bI.of (s4 _ _ hvs),bI.of (s4 _ _ hq),List.getElem?_eq_getElem (by omega),List.getElem?_eq_getElem (by rw[List.length_map];exact hk)⟩
  ·exact⟨_,_,bI.of (s4 _ _ hvs),bI.of (s4 _ _ hq),.inl (by omega)⟩
  ·obtain⟨a,v,u,rfl,ha,rfl,e⟩:=hy
   obtain⟨e1,e2⟩:=e _ _ (bI.of (s4 _ _ hvs)) (bI.of (s4 _ _ hq))
   obtain⟨c,hc,hv⟩:=GP.Paired.at p3 e1
   rw[show pA.getD k 0=c from j9 hc]at hR hZ
   rw[List.getElem?_map,hc]at e2
   cases e2
   have s5:=ai.upd (o:=.tup [v,.int (cs c)]) ha
   refine⟨_,_,rfl,dR.of ah,rfl,_,_,rfl,_,_,rfl,rfl,Kp2,?_⟩
   have hv:vv H (G (i,j,c)) v:=hv
   cases hG:G (i,j,c)with
   |none =>
    rw[hG]at hv hZ
    obtain rfl:v= .iz:=hv
    exact⟨_,rfl,rfl,_,rfl,jr (hZ rfl _ s5)⟩
   |some o =>
    rw[hG]at hv hR
    obtain⟨pp,rfl,hpp⟩:=hv
    have SI:=s5 _ _ (s4 _ _ hpp)
    refine⟨_,rfl,rfl,_,rfl,ng ⟨_,rfl,pp,_,_,_,rfl,rfl,dR.of SI,rfl,_,rfl,_,_,rfl,rfl,_,rfl,pp,_,_,_,rfl,rfl,dR.of SI,rfl,by show 2<=sizeLine;decide,λr hr=>?_⟩⟩
    exact hR rfl r _ (s5.trans (ai.upd hr)) (ai.free s5 hr) ah
  ·refine kk lc H4 s4 Mc ⟨rs,M7,?_⟩
   rw[←Mg]
   exact uZ hrs
theorem AL {jD mK fF jH fN dY:Addr} {iP kP eN iT dW c7:FuncData} {p:Pm} (T:Txt K mg p base) (gF:Dn K mg "_law_three" nD R0 jD iP) (gD:Dn K mg "_law_gap" qG R5 mK kP) (Ac:aI P w K mg base b8 3 mK kP R5 (MK K p.au)) (cU:Dn K mg "_law_may_begin" jl R4 fF eN) (vZ:aI P w K mg base b8 1 fF eN R4 FD) (bX:Dn K mg "_law_grown" nH R1 jH iT) (qA:aI P w K mg base b8 1 jH iT R1 FE) (cA:Dn K mg "pair_cost" lJ PC fN dW) (qw:aI P w K mg base b8 1 fN dW PC (rK K p.au)) (bu:Dn K mg "_law_merged" jY Py dY c7) (ko:aI P w K mg base b8 1 dY c7 Py wN):aI P w K mg base b8 4 jD iP R0 (Fw K p.au):=by
 refine gF.fn.ok fJ (λvs H Q E h=>?_) (λcdv A outer s H vs Q E hr h=>?_)
 ·obtain⟨pr,lg,T1,f,s,m,i,j,rfl,_⟩:=h
  rfl
 ·obtain⟨pr,lg,T1,f,s,m,i,j,rfl,hP,of,os,hm,hf,hs,hi,hj,c1,c2,c3,kk⟩:=h
  refine⟨_,(aj (aD (i:=7) fJ.nd rfl (Or.inl rfl) (az Ac (hr.mono (by decide)) rfl gD.m gD.fn.kp gD.b .nil aN (aa (pv 0) (aa CD af))))
   (aj (aD (i:=8) fJ.nd rfl (Or.inl rfl) (az Ac (hr.mono (by decide)) rfl gD.m gD.fn.kp gD.b .nil aN (aa (pv 0) (aa CD af))))
   (aj (aD (i:=9) fJ.nd rfl (Or.inl rfl) (eX af))
   (bJ (bO (iG (az vZ (hr.mono (by decide)) rfl cU.m cU.fn.kp cU.b .nil aN (aa (pv 3) (aa (pv 5) (aa (pv 6) af))))) (aq (dF (mU PySem.F.plainAttrs_list PySem.F.slot_list_append PySem.F.type_list_append fu (pv 9) (aa (bG (aa ak (aa ak af))) af)))) aS)
   (bJ (bO (PW.pt (I0 (aR pY (pv 5) ak (aO _)) (FP (aR pY (pv 6) ak (aO _))))) (aq (dF (mU PySem.F.plainAttrs_list PySem.F.slot_list_extend PySem.F.type_list_extend uE (pv 9) (aa (az qA (hr.mono (by decide)) rfl bX.m bX.fn.kp bX.b .nil aN (aa (aW bC (aW bC (pv 4) (aE mV (pv 5) ak) (λ_ _=>rfl)) (aE mV (pv 6) ak) (λ_ _=>rfl)) (aa (aE O7 (eX (aa (az qw (hr.mono (by decide)) rfl cA.m cA.fn.kp cA.b .nil aN (aa (pv 0) (aa (aW uJ (pv 1) (aE mV (pv 5) ak) (λ_ _=>rfl)) (aa (aW uJ (pv 2) (aE mV (pv 6) ak) (λ_ _=>rfl)) af)))) af)) ak) af))) af)))) aS)
   (aj (aD (i:=10) fJ.nd rfl (Or.inl rfl) (eX af))
   (bJ (bO (aR pY (pv 5) ak (aO _)) (aq (aD (i:=10) fJ.nd rfl (Or.inl rfl) (az qA (hr.mono (by decide)) rfl bX.m bX.fn.kp bX.b .nil aN (aa (aW bC (aW bC (pv 4) (aE mV (pv 5) ak) (λ_ _=>rfl)) (pv 6) (λ_ _=>rfl)) (aa (eX (aa (pv 7) (aa (pv 8) (aa (pv 7) af)))) af))))) aS)
   (aj (aD (i:=11) fJ.nd rfl (Or.inl rfl) (eX af))
   (bJ (bO (aR pY (pv 6) ak (aO _)) (aq (aD (i:=11) fJ.nd rfl (Or.inl rfl) (az qA (hr.mono (by decide)) rfl bX.m bX.fn.kp bX.b .nil aN (aa (aW bC (aW bC (pv 4) (pv 5) (λ_ _=>rfl)) (aE mV (pv 6) ak) (λ_ _=>rfl)) (aa (eX (aa (pv 7) (aa (pv 7) (aa (pv 8) af)))) af))))) aS)
   (aq (aL (eX (aa (az ko (hr.mono (by decide)) rfl bu.m bu.fn.kp bu.b .nil aN (aa (pv 9) af)) (aa (az ko (hr.mono (by decide)) rfl bu.m bu.fn.kp bu.b .nil aN (aa (pv 10) af)) (aa (az ko (hr.mono (by decide)) rfl bu.m bu.fn.kp bu.b .nil aN (aa (pv 11) af)) af))))))))))))))),?_⟩
  refine⟨_,rfl,pr,T1,false,rfl,hP,_,rfl,pr,T1,true,rfl,hP,by show 0<=sizeLine;decide,λlo hlo=>?_⟩
  have lf:f.length<=sizeLine:=Nat.le_trans hf (by decide)
  have lsz:s.length<=sizeLine:=Nat.le_trans hs (by decide)
  have s1:ai H (L2.upd H lo (.lst [])):=ai.upd hlo
  have hl1:L2.upd H lo (.lst []) lo=some (.lst []):=ah
  generalize L2.upd H lo (.lst [])=H1 at s1 hl1 ⊢
  have S6:(i,j)∈cI m f.cps.size s.cps.size↔vK m ((i:Int),(j:Int))=true:=⟨λh=>(List.mem_filter.mp h).2,λh=>List.mem_filter.mpr ⟨dO.mpr ⟨hi,hj⟩,h⟩⟩
  refine⟨λσ H2=>σ=[some (.ref pr),some (.str f),some (.str s),some (.str m),some (.ref lg),some (.int (i:Int)),some (.int (j:Int)),some (.int ((cK T1 m f s).op+(cK T1 m f s).mo)),some (.int (cK T1 m f s).mo),some (.ref lo),none,none]/\ai H H2/\tW H2 lo (if(i,j)∈cI m f.cps.size s.cps.size then [(0,1)]else []),?_,?_⟩
  ·refine⟨_,rfl,_,rfl,_,rfl,m,_,_,rfl,hm,_,rfl,?_⟩
   cases z:vK m ((i:Int),(j:Int))with
   |true =>
    rw[show(if(i,j)∈cI m f.cps.size s.cps.size then [((0:Int),(1:Nat))]else [])=[(0,1)] from if_pos (S6.mpr z)]
    refine ng ⟨_,rfl,.inl ⟨rfl,_,bI.of hl1⟩,by show 2<=sizeLine;decide,λq hq=>?_⟩
    have s2:=ai.upd (o:=pO (0,1)) hq
    exact⟨lo,_,_,rfl,rfl,s2 _ _ hl1,by show 0<sizeLine;decide,rfl,ai.at (s1.trans s2) hlo,tW.ext (os:=[]) (zs:=[(0,1)]) (ps:=[]) (qs:=[q]) (s2 _ _ hl1) .nil (.cons ah .nil)⟩
   |false =>
    rw[show(if(i,j)∈cI m f.cps.size s.cps.size then [((0:Int),(1:Nat))]else [])=[] from if_neg (λq=>by rw[S6.mp q]at z;cases z)]
    exact jr ⟨rfl,s1,[],hl1,.nil⟩
  rintro σ H2 ⟨rfl,s2,Z0⟩
  refine⟨λσ H3=>σ=[some (.ref pr),some (.str f),some (.str s),some (.str m),some (.ref lg),some (.int (i:Int)),some (.int (j:Int)),some (.int ((cK T1 m f s).op+(cK T1 m f s).mo)),some (.int (cK T1 m f s).mo),some (.ref lo),none,none]/\ai H H3/\tW H3 lo ((if(i,j)∈cI m f.cps.size s.cps.size then [(0,1)]else [])++if 0<i/\0<j then HZ ((cK T1 m f s).gv (cI m f.cps.size s.cps.size)) (λ_=>(cK T1 m f s).pc (i-1) (j-1)) (i-1) (j-1)else []),?_,?_⟩
  ·have none_:¬(0<i/\0<j)->tW H2 lo ((if(i,j)∈cI m f.cps.size s.cps.size then [(0,1)]else [])++if 0<i/\0<j then HZ ((cK T1 m f s).gv (cI m f.cps.size s.cps.size)) (λ_=>(cK T1 m f s).pc (i-1) (j-1)) (i-1) (j-1)else []):=λz=>by
    rw[if_neg z,List.append_nil]
    exact Z0
   refine⟨_,rfl,_,_,rfl,rfl,_,rfl,cD (λh1=>?_) λh1=>jr ⟨rfl,s2,none_ (λz=>h1 (by show(0:Int)<(i:Int);omega))⟩⟩
   refine⟨_,rfl,_,_,rfl,rfl,_,rfl,cD (λh2=>?_) λh2=>⟨rfl,s2,none_ (λz=>h2 (by show(0:Int)<(j:Int);omega))⟩⟩
   have pL:0<i:=by have z:(0:Int)<(i:Int):=h1;omega
   have h2':0<j:=by have z:(0:Int)<(j:Int):=h2;omega
   rw[if_pos (c:=0<i/\0<j) ⟨pL,h2'⟩]
   obtain⟨ps2,P0,Ze⟩:=Z0
   obtain⟨ls,qs,l,q,b1,b2,b3,b4,b5⟩:=(c1 pL h2').same s2
   have ei:((i-1:Nat):Int)=(i:Int)-1:=by omega
   have ej:((j-1:Nat):Int)=(j:Int)-1:=by omega
   rw[ei]at b2
   rw[ej]at b4
   refine⟨_,rfl,.inl ⟨rfl,_,bI.of P0⟩,_,rfl,_,rfl,_,_,rfl,rfl,lg,_,_,_,rfl,rfl,bI.of b1,b2,_,rfl,_,_,rfl,rfl,l,_,_,_,rfl,rfl,bI.of b3,b4,?_⟩
   have h1s:i-1<f.cps.size:=by omega
   have h2s:j-1<s.cps.size:=by omega
   obtain⟨a,ha⟩:=Be h1s
   obtain⟨c,hc⟩:=Be h2s
   obtain⟨i',j',fr,hi',hj',hat,YB⟩:=Jg (u:=uT T1) hP.Y5 (of a (nR ha)) (os c (nR hc))
   have e1:fr.1*(uT T1 / fr.2)=(cK T1 m f s).pc (i-1) (j-1):=by
    show _=RI T1.1 T1.2.1 (uT T1) (f.cps.toList.getD (i-1) 0) (s.cps.toList.getD (j-1) 0)
    rw[List.getD_eq_getElem?_getD,List.getD_eq_getElem?_getD,kh ha,kh hc]
    exact YB.symm
   refine⟨_,rfl,_,rfl,_,rfl,_,_,rfl,rfl,f,_,a,rfl,rfl,lf,by rw[←ei];exact ee (kh ha),_,rfl,_,rfl,_,_,rfl,rfl,s,_,c,rfl,rfl,lsz,by rw[←ej];exact ee (kh hc),pr,T1.1,T1.2.1,T1.2.2.1,T1.2.2.2,i',j',a,c,fr,rfl,m7.same s2 hP,hi',hj',hat,λH5 s5=>⟨by show 1<=sizeLine;decide,λr1 hr1=>?_⟩⟩
   have s6:=ai.upd (o:=.lst [.int (fr.1*(uT T1 / fr.2))]) hr1
   refine⟨r1,3,_,rfl,rfl,ah,by decide,by decide,by show 1*3<=sizeLine;decide,λr2 hr2=>?_⟩
   have s7:=s6.trans (ai.upd (o:=.lst (List.replicate (3:Int).toNat [V.int (fr.1*(uT T1 / fr.2))]).flatten) hr2)
   refine⟨q,r2,(cK T1 m f s).gv (cI m f.cps.size s.cps.size),λ_=>(cK T1 m f s).pc (i-1) (j-1),i-1,j-1,rfl,b5.same (s5.trans s7),by rw[ah];show some (HO.lst [V.int (fr.1*(uT T1 / fr.2)),V.int (fr.1*(uT T1 / fr.2)),V.int (fr.1*(uT T1 / fr.2))])=_;rw[e1];rfl,λr3 H8 s8 Uv Qf=>?_⟩
   have Ui:=(s5.trans s7).trans s8
   obtain⟨ps3,XC,Zd⟩:=Qf
   refine⟨lo,r3,_,_,rfl,rfl,Ui _ _ P0,XC,?_,rfl,ai.at (s2.trans Ui) hlo,tW.ext (Ui _ _ P0) (Paired.dP Ze λ_ _ z=>Ui _ _ z) Zd⟩
   rw[List.length_map,List.length_map,Paired.len Ze,Paired.len Zd]
   have z1:(if(i,j)∈cI m f.cps.size s.cps.size then [((0:Int),1)]else []).length<=1:=by split<;>simp
   have z2:=Gh ((cK T1 m f s).gv (cI m f.cps.size s.cps.size)) (λ_=>(cK T1 m f s).pc (i-1) (j-1)) (i-1) (j-1)
   exact Nat.le_trans (show _<=100 by omega) (by decide)
  rintro σ H3 ⟨rfl,s3,Qf⟩
  refine⟨by show 0<=sizeLine;decide,λld XR=>?_⟩
  have s4:=ai.upd (o:=.lst []) XR
  have HY:L2.upd H3 ld (.lst []) ld=some (.lst []):=ah
  generalize L2.upd H3 ld (.lst [])=H4 at s4 HY ⊢
  have Y9:=s3.trans s4
  refine⟨λσ H5=>∃l1,σ=[some (.ref pr),some (.str f),some (.str s),some (.str m),some (.ref lg),some (.int (i:Int)),some (.int (j:Int)),some (.int ((cK T1 m f s).op+(cK T1 m f s).mo)),some (.int (cK T1 m f s).mo),some (.ref lo),some (.ref l1),none]/\ai H4 H5/\tW H5 l1 (if 0<i then HZ ((cK T1 m f s).gv (cI m f.cps.size s.cps.size)) ((cK T1 m f s).ac 97) (i-1) j else []),?_,?_⟩
  ·refine⟨_,rfl,_,_,rfl,rfl,_,rfl,cD (λh1=>?_) λh1=>⟨ld,rfl,ai.refl _,?_⟩⟩
   ·have pL:0<i:=by have z:(0:Int)<(i:Int):=h1;omega
    rw[if_pos pL]
    obtain⟨ls,qs,l,q,b1,b2,b3,b4,b5⟩:=(c2 pL).same Y9
    have ei:((i-1:Nat):Int)=(i:Int)-1:=by omega
    rw[ei]at b2
    refine⟨_,rfl,_,rfl,_,_,rfl,rfl,lg,_,_,_,rfl,rfl,bI.of b1,b2,_,rfl,l,_,_,_,rfl,rfl,bI.of b3,b4,?_⟩
    refine⟨_,rfl,_,rfl,_,rfl,by show 3<=sizeLine;decide,λr1 hr1=>?_⟩
    have s6:=ai.upd (o:=.lst [.int ((cK T1 m f s).op+(cK T1 m f s).mo),.int (cK T1 m f s).mo,.int ((cK T1 m f s).op+(cK T1 m f s).mo)]) hr1
    exact⟨q,r1,(cK T1 m f s).gv (cI m f.cps.size s.cps.size),(cK T1 m f s).ac 97,i-1,j,rfl,b5.same s6,ah,λr3 H8 s8 Uv Qf=>⟨r3,rfl,s6.trans s8,Qf⟩⟩
   ·rw[if_neg (λz=>h1 (by show(0:Int)<(i:Int);omega))]
    exact⟨[],HY,.nil⟩
  rintro σ H5 ⟨l1,rfl,s5,hO5⟩
  refine⟨by show 0<=sizeLine;decide,λle hle=>?_⟩
  have s6:=ai.upd (o:=.lst []) hle
  have UD:L2.upd H5 le (.lst []) le=some (.lst []):=ah
  generalize L2.upd H5 le (.lst [])=H6 at s6 UD ⊢
  have s06:=(Y9.trans s5).trans s6
  refine⟨λσ H7=>∃l2,σ=[some (.ref pr),some (.str f),some (.str s),some (.str m),some (.ref lg),some (.int (i:Int)),some (.int (j:Int)),some (.int ((cK T1 m f s).op+(cK T1 m f s).mo)),some (.int (cK T1 m f s).mo),some (.ref lo),some (.ref l1),some (.ref l2)]/\ai H6 H7/\tW H7 l2 (if 0<j then HZ ((cK T1 m f s).gv (cI m f.cps.size s.cps.size)) ((cK T1 m f s).ac 98) i (j-1)else []),?_,?_⟩
  ·refine⟨_,rfl,_,_,rfl,rfl,_,rfl,cD (λh1=>?_) λh1=>⟨le,rfl,ai.refl _,?_⟩⟩
   ·have pL:0<j:=by have z:(0:Int)<(j:Int):=h1;omega
    rw[if_pos pL]
    obtain⟨ls,qs,l,q,b1,b2,b3,b4,b5⟩:=(c3 pL).same s06
    have ej:((j-1:Nat):Int)=(j:Int)-1:=by omega
    rw[ej]at b4
    refine⟨_,rfl,_,rfl,lg,_,_,_,rfl,rfl,bI.of b1,b2,_,rfl,_,_,rfl,rfl,l,_,_,_,rfl,rfl,bI.of b3,b4,?_⟩
    refine⟨_,rfl,_,rfl,_,rfl,by show 3<=sizeLine;decide,λr1 hr1=>?_⟩
    have s7:=ai.upd (o:=.lst [.int ((cK T1 m f s).op+(cK T1 m f s).mo),.int ((cK T1 m f s).op+(cK T1 m f s).mo),.int (cK T1 m f s).mo]) hr1
    exact⟨q,r1,(cK T1 m f s).gv (cI m f.cps.size s.cps.size),(cK T1 m f s).ac 98,i,j-1,rfl,b5.same s7,ah,λr3 H8 s8 Uv Qf=>⟨r3,rfl,s7.trans s8,Qf⟩⟩
   ·rw[if_neg (λz=>h1 (by show(0:Int)<(j:Int);omega))]
    exact⟨[],UD,.nil⟩
  rintro σ H7 ⟨l2,rfl,s7,hO7⟩
  have nd:=Gs m f.cps.size s.cps.size
  have hbi:∀b∈cI m f.cps.size s.cps.size,(cK T1 m f s).In (b.1,b.2,112):=λb hb=>by
   have:=dO.mp (List.mem_filter.mp hb).1
   exact⟨this.1,this.2,.inl rfl⟩
  have g1:=Gd.Ys (g:=cK T1 m f s) nd hbi hi hj
  have g2:=Gd.Yu (g:=cK T1 m f s) nd hbi hi hj
  have g3:=Gd.Yt (g:=cK T1 m f s) nd hbi hi hj
  have W9:∀{p:Prop} [Decidable p] (G cs a b),(if p then HZ G cs a b else []).length<=3:=λG cs a b=>by
   split
   ·exact Gh _ _ _ _
   ·exact Nat.zero_le _
  have z1:(if(i,j)∈cI m f.cps.size s.cps.size then [((0:Int),1)]else []).length<=1:=by split<;>simp
  have QG:=s6.trans s7
  have Y7:=(s4.trans s5).trans QG
  refine⟨_,rfl,lo,_,rfl,Qf.same Y7,by rw[List.length_append];have:=W9 (p:=0<i/\0<j) ((cK T1 m f s).gv (cI m f.cps.size s.cps.size)) (λ_=>(cK T1 m f s).pc (i-1) (j-1)) (i-1) (j-1);omega,λv1 H8 s8 o1=>?_⟩
  refine⟨_,rfl,l1,_,rfl,hO5.same (QG.trans s8),Nat.le_trans (W9 _ _ _ _) (by decide),λv2 H9 s9 o2=>?_⟩
  refine⟨_,rfl,l2,_,rfl,hO7.same (s8.trans s9),Nat.le_trans (W9 _ _ _ _) (by decide),λv3 GA Cs o3=>?_⟩
  rw[←g1]at o1
  rw[←g2]at o2
  rw[←g3]at o3
  refine⟨by show 3<=sizeLine;decide,λr hr=>?_⟩
  have GN:=ai.upd (o:=.lst [v1,v2,v3]) hr
  have sa:=(s3.trans Y7).trans ((s8.trans s9).trans Cs)
  exact kk r _ (sa.trans GN) (ai.free sa hr) ⟨[v1,v2,v3],ah,.cons (o1.same ((s9.trans Cs).trans GN)) (.cons (o2.same (Cs.trans GN)) (.cons (o3.same GN) .nil))⟩
end
section
variable{P:Program}{w:World}{K:PySem.W.Frag}{mg:Str->Option Value}{base:Heap}
theorem xu {ic gQ:Addr} {gp fM:FuncData} {p:Pm} (T:Txt K mg p base) (b7:Dn K mg "_law_refusal" k9 RZ ic gp) (c6:Dn K mg "count_of" mT l8 gQ fM) (sD:aI P w K mg base (vz P w) 8 gQ fM l8 (Al P w K p.au p.aB p.aG (ue K))):aI P w K mg base b8 9 ic gp RZ (ID K p.au (ue K)):=by
 refine b7.fn.ok gh (λvs H Q E h=>?_) (λcdv A outer s H vs Q E hr h=>?_)
 ·obtain⟨pr,T1,f,s,m,rfl,_⟩:=h
  rfl
 ·obtain⟨pr,T1,f,s,m,rfl,hP,hT,hf,hs,kk⟩:=h
  refine⟨_,(aj (aD (i:=4) gh.nd rfl (Or.inl rfl) oW)
   (bJ (O2 Qk (λ_ _ _ LT PO=>(aq (dF (Jf sD (hr.mono (by decide)) rfl c6.m c6.fn.kp c6.b .nil LT (aa (pv 0) (aa (pv 1) (aa (pv 2) (aa (pv 3) af)))))))) (MP (i:=5) gh.nd rfl rfl rfl T.uF T.GC (λea=>(aq (aD (i:=4) gh.nd rfl (Or.inl rfl) (bG (aa bB (aa (CB (K':=K) rfl (pv 5) rfl) (aa (CB (K':=K) rfl (pv 5) rfl) (aa (kI (zT) rfl T.Fq Bq (aa (aC (qt (K':=K) rfl) rfl T.bx aZ (aa (pv 5) (aa (oX (v:=.ref p.aG) rfl T.qe rfl) af))) af)) af)))))))) (MP (i:=5) gh.nd rfl rfl rfl T.qe T.BW (λea=>(aq (aD (i:=4) gh.nd rfl (Or.inl rfl) (bG (aa bB (aa (kI (zT) rfl T.Fq Bq (aa (aC (qt (K':=K) rfl) rfl T.bx aZ (aa (pv 5) (aa (oX (v:=.ref p.aB) rfl T.uF rfl) af))) af)) af)))))) O5)))
   (aq (aL (pv 4))))),?_⟩
  refine⟨λσ' H'=>∃r v5,σ'=[some (.ref pr),some (.str f),some (.str s),some (.str m),some (.ref r),v5]/\Q (.ref r) H',?_,?_⟩
  ·refine⟨_,rfl,_,rfl,_,rfl,_,rfl,pr,T1,f,s,m,rfl,hP,hT,hf,hs,λof os hm=>?_,λi j bad dx H' s' hd=>?_,λof os hm=>?_⟩
   ·rcases kk with⟨i,j,hB,_⟩|⟨_,_,hm',_⟩
    ·exact absurd ⟨of,os⟩ hB.no
    ·rw[hm]at hm';cases hm'
   ·rcases kk with⟨i',j',hB,kk⟩|⟨of,os,_⟩
    ·obtain⟨rfl,rfl⟩:=hB.uniq bad
     refine⟨_,_,rfl,T.uI,ng λea X6=>?_⟩
     have s2:ai H' (upd H' ea (K0 ea (.ref p.aB) (some dx))):=ai.upd X6
     refine⟨_,rfl,ea,_,dx,_,_,rfl,ah,s2 _ _ hd,T.ug,T.sZ,JZ,_,rfl,ea,_,dx,_,_,rfl,ah,s2 _ _ hd,T.ug,T.qb,EY,?_⟩
     refine⟨_,rfl,ea,p.aB,some dx,_,_,false,rfl,.inl ⟨_,rfl,rfl⟩,ah,.inr ⟨dx,_,rfl,s2 _ _ hd⟩,T.ug,T.rX,.inr ⟨false,rfl,by show 4<=sizeLine;decide,λt2 DX=>?_⟩⟩
     exact⟨t2,_,rfl,kk t2 _ ((s'.trans s2).trans (ai.upd DX)) ah⟩
    ·exact absurd ⟨of,os⟩ bad.no
   ·rcases kk with⟨i,j,hB,_⟩|⟨_,_,_,hl,kk⟩
    ·exact absurd ⟨of,os⟩ hB.no
    ·refine⟨hl,λH' s'=>⟨_,_,rfl,T.rW,jr ⟨_,_,rfl,T.qj,ng λea X6=>?_⟩⟩⟩
     have s2:ai H' (upd H' ea (K0 ea (.ref p.aG) none)):=ai.upd X6
     refine⟨_,rfl,ea,p.aG,none,_,_,false,rfl,.inl ⟨_,rfl,rfl⟩,ah,.inl rfl,T.BS,T.rY,.inr ⟨false,rfl,by show 2<=sizeLine;decide,λt2 DX=>?_⟩⟩
     exact⟨t2,_,rfl,kk t2 _ ((s'.trans s2).trans (ai.upd DX)) ah⟩
  ·rintro σ' H1 ⟨r,v5,rfl,q⟩
   exact⟨_,rfl,q⟩
theorem vI {gA:Addr} {fC:FuncData} {p:Pm} (T:Txt K mg p base) (dw:Dn K mg "_law_odd_rows" jX KU gA fC)  :aI P w K mg base b8 1 gA fC KU (IG K p.au):=by
 refine dw.fn.ok cS (λvs H Q E h=>?_) (λcdv A outer s H vs Q E hr h=>?_)
 ·obtain⟨m,pr,T1,f,g,rfl,_⟩:=h
  rfl
 ·obtain⟨m,pr,T1,f,g,rfl,hm,hP,h4,of,og,hf,hg,kk⟩:=h
  have lf:f.length<=sizeLine:=Nat.le_trans hf (by decide)
  have lg:g.length<=sizeLine:=Nat.le_trans hg (by decide)
  refine⟨_,(bJ (aD (i:=4) cS.nd rfl (Or.inl rfl) (aW bC (oE (N:=["_law_sign","_law_prices_here"]) rfl (cG.rm (nt:=1) (ix:=[1]) rfl (by decide +kernel) (by decide +kernel) (by kernel_rfl) rfl (by kernel_rfl)) (Ja bB) (λ_ _ _ _ _ _ _=>(aM (i:=0) (show(["_law_sign","_law_prices_here"]:List Str).Nodup by decide +kernel) rfl (Or.inl rfl))) (λ_ _ _ _ _ _ _=>(pv 0)) (λ_ _ _ _ _ _ _=>(aR sU (pv 0) (Lu (K':=K) rfl (pv 1) rfl) (by with_unfolding_all rfl)))) ak (λ_ _=>rfl)))
   (aj (aD (i:=5) cS.nd rfl (Or.inl rfl) (eX (aa (pv 2) (aa (pv 3) af))))
   (aj (aD (i:=6) cS.nd rfl (Or.inl rfl) oW)
   (bJ (eW PassesOwn.never rfl (gi rfl T.jP (aa ak af)) (aM (i:=7) cS.nd rfl (Or.inl rfl)) (aq (bO (aR xj (aE cj (pv 0) ak) (pv 7) (aO _)) (aj (aD (i:=8) cS.nd rfl (Or.inl rfl) (aW bC (pv 5) (pv 7) (λ_ _=>rfl)))
   (bJ (aD (i:=9) cS.nd rfl (Or.inl rfl) (aE cj (aE dG (pv 0) (aE dM ak (aE mW ak (pv 7)))) (aE dM (aC (bz) rfl T.eV ck (aa (pv 8) af)) ak)))
   (aj (uw (aE oY (aE oY (CA IS (pv 8) FW (FU (pv 9))) (pv 4)) (CA IS (pv 8) (FU (pv 9)) FW)) (AB (pv 5) (pv 7) set_list))
   (aq (bO (aR Ep (pv 6) oW (by with_unfolding_all rfl)) (aq (aD (i:=6) cS.nd rfl (Or.inl rfl) (bG (aa (pv 7) (aa (pv 9) af))))) aS))))) aS)))
   (aq (aL (bG (aa (pv 5) (aa (pv 6) af))))))))),?_⟩
  refine⟨λσ H2=>∃c:Nat,c∉T1.1.cps.toList/\σ=[some (.int m),some (.ref pr),some (.str f),some (.str g),some (.str ⟨#[c]⟩),none,none,none,none,none]/\ai H H2,?_,?_⟩
  ·refine⟨_,rfl,λl hl=>?_⟩
   have e9:(Str.ofString "qxQX07+~ ").cps.size=9:=by kernel_rfl
   obtain⟨_,_,_,_,_,_,_,dx,Pp,o,mo,d,kvs,QT,_⟩:=id hP
   refine tN 9 (λi=>!decide (uC.getD i 0∈T1.1.cps.toList)) (λi=>sg (uC.getD i 0)) hl (by decide) (λi H2 s2 hi=>?_) (λH2 s2=>?_) (λi y H2 H3 R S s2 hi hy hR hS=>?_) λH2 s2 hl2=>?_
   ·show i<_;rw[e9];exact hi
   ·show _<=9;rw[e9];exact Nat.le_refl _
   ·obtain⟨rfl,c,hc,rfl⟩:=hy
    have ec:uC.getD i 0=c:=j9 (by rw[←LA];exact kh hc)
    rw[ec]at hR hS
    refine⟨Kp.An,_,rfl,_,rfl,pr,_,dx,_,_,rfl,s2 _ _ QT,T.bq,T.gj,o6,_,_,rfl,rfl,_,rfl,?_⟩
    rw[StrLaws.found_one]
    by_cases q:c∈T1.1.cps.toList
    ·rw[decide_eq_true q]at hS ⊢
     exact vf (hS rfl _ (ai.refl _))
    ·rw[decide_eq_false q]at hR ⊢
     exact Ga ⟨_,rfl,hR rfl _ (ai.refl _)⟩
   ·have JM:=LC h4
    have e:((List.range 9).filter λi=>!decide (uC.getD i 0∈T1.1.cps.toList)).map (λi=>sg (uC.getD i 0))=(vc T1.1).map sg:=by
     unfold vc
     rw[←Bc uC 0,List.map_map]
     rfl
    rw[e]at hl2
    have hjl:0<(vc T1.1).length:=by omega
    exact⟨l,_,_,_,rfl,rfl,bI.of hl2,(show z0 _ ((0:Nat):Int)=_ from ee (by rw[List.getElem?_map,List.getElem?_eq_getElem hjl];rfl)),(vc T1.1)[0],Pc (List.getElem_mem hjl),rfl,s2⟩
  rintro σ H1 ⟨c,hc,rfl,s1⟩
  refine⟨_,rfl,_,rfl,by show 2<=sizeLine;decide,λlr hlr=>?_⟩
  have m0:=Int.emod_nonneg (m / 3) (show(f.cps.size:Int)+1≠0 by omega)
  have m1:=Int.emod_lt_of_pos (m / 3) (show(0:Int)<(f.cps.size:Int)+1 by omega)
  have n0:=Int.emod_nonneg (m / 50) (show(g.cps.size:Int)+1≠0 by omega)
  have n1:=Int.emod_lt_of_pos (m / 50) (show(0:Int)<(g.cps.size:Int)+1 by omega)
  obtain⟨a1,ha1⟩:∃a:Nat,m / 3 % ((f.cps.size:Int)+1)=(a:Int):=⟨_,(Int.toNat_of_nonneg m0).symm⟩
  obtain⟨b1,hb1⟩:∃a:Nat,m / 50 % ((g.cps.size:Int)+1)=(a:Int):=⟨_,(Int.toNat_of_nonneg n0).symm⟩
  have a1f:(a1:Int)<=(f.cps.size:Int):=by omega
  have b1g:(b1:Int)<=(g.cps.size:Int):=by omega
  have zf:=Ge (c:=c) (Int.natCast_nonneg a1) a1f
  have zg:=Ge (c:=c) (Int.natCast_nonneg b1) b1g
  have Bf:=zZ (b:=f) (Int.natCast_nonneg a1) a1f of hc
  have Bg:=zZ (b:=g) (Int.natCast_nonneg b1) b1g og hc
  rw[Int.toNat_natCast]at Bf Bg
  refine⟨λσ H5=>∃(a b:Str) (d:Addr) (i j:Nat) (v7 v8 v9:Option V),σ=[some (.int m),some (.ref pr),some (.str f),some (.str g),some (.str ⟨#[c]⟩),some (.ref lr),some (.ref d),v7,v8,v9]/\ai H1 H5/\H5 lr=some (.lst [.str a,.str b])/\uc T1.1 a b i j/\a.cps.size<=20/\b.cps.size<=20/\H5 d=some (.tup [.int (i:Int),.int (j:Int)]),?_,?_⟩
  ·refine⟨2,rfl,by decide,by decide,?_⟩
   refine jA (lo:=0) (n:=2) (λi σ H5=>∃(a b:Str) (v:V) (v7 v8 v9:Option V),σ=[some (.int m),some (.ref pr),some (.str f),some (.str g),some (.str ⟨#[c]⟩),some (.ref lr),some v,v7,v8,v9]/\ai H1 H5/\H5 lr=some (.lst [.str a,.str b]) ∧
    ((i=0/\a=f/\b=g/\v= .iz)\/(i=1/\b=g/\m % 3=0/\a=f/\v= .iz)\/(1<=i/\m % 3≠0/\a=yM f a1 c/\(b=g\/b=yM g b1 c)/\(i=1->b=g)/\∃d,v= .ref d/\H5 d=some (.tup [.int ((0:Nat):Int),.int (a1:Int)]))\/(i=2/\a=f/\b=yM g b1 c/\∃d,v= .ref d/\H5 d=some (.tup [.int ((1:Nat):Int),.int (b1:Int)]))))
    ⟨f,g,.iz,_,_,_,rfl,ai.upd hlr,ah,.inl ⟨rfl,rfl,rfl,rfl⟩⟩ ?_ ?_
   ·rintro i σ H5 hi ⟨a,b,v,v7,v8,v9,rfl,s5,A3,hcn⟩
    refine⟨_,rfl,_,_,rfl,rfl,(by show(0:Int)<3;decide),_,rfl,rfl,_,rfl,xO (λhk=>?_) λhk=>?_⟩
    ·obtain⟨x,sp,hx,DY,hxz,abi⟩:∃(x:Str) (sp:Nat),z0 [V.str a,.str b] (0+(i:Int))=some (.str x)/\(x=f/\sp=a1/\i=0\/x=g/\sp=b1/\i=1)/\(i=0->x=a/\sp=a1)/\(i=1->x=b/\sp=b1):=by
      rcases(show i=0\/i=1 by omega)with rfl|rfl
      ·refine⟨a,a1,rfl,.inl ⟨?_,rfl,rfl⟩,λ_=>⟨rfl,rfl⟩,λz=>absurd z (by decide)⟩
       rcases hcn with⟨_,h,_⟩|⟨z,_⟩|⟨z,_⟩|⟨z,_⟩
       ·exact h
       all_goals exact absurd z (by decide)
      ·refine⟨b,b1,rfl,.inr ⟨?_,rfl,rfl⟩,(λz=>absurd z (by decide)),λ_=>⟨rfl,rfl⟩⟩
       rcases hcn with⟨z,_⟩|⟨_,h,_⟩|⟨_,_,_,_,h,_⟩|⟨z,_⟩
       ·exact absurd z (by decide)
       ·exact h
       ·exact h rfl
       ·exact absurd z (by decide)
     have hxs:x.cps.size<=12/\(sp:Int)<=(x.cps.size:Int):=by rcases DY with⟨rfl,rfl,_⟩|⟨rfl,rfl,_⟩<;>omega
     have hsv:m / (3+47*(0+(i:Int))) % ((x.cps.size:Int)+1)=(sp:Int):=by
      rcases DY with⟨rfl,rfl,rfl⟩|⟨rfl,rfl,rfl⟩
      ·exact ha1
      ·exact hb1
     have lx:x.length<=sizeLine:=Nat.le_trans hxs.1 (by decide)
     have l1:=Txt.slice_le x none (some (sp:Int))
     have l2:=Txt.slice_le x (some (sp:Int)) none
     have xl:x.length<=12:=hxs.1
     have l3:(Txt.slice x none (some (sp:Int))++(⟨#[c]⟩:Str)).length=(Txt.slice x none (some (sp:Int))).length+1:=by
      show((Txt.slice x none (some (sp:Int))).cps++ #[c]).size=_
      rw[Array.size_append]
      rfl
     refine⟨_,rfl,_,rfl,lr,_,_,_,rfl,rfl,bI.of A3,hx,?_⟩
     refine⟨λσ H6=>σ=[some (.int m),some (.ref pr),some (.str f),some (.str g),some (.str ⟨#[c]⟩),some (.ref lr),some v,some (.int (0+(i:Int))),some (.str x),some (.int (sp:Int))]/\H5=H6,?_,?_⟩
     ·refine⟨_,rfl,_,rfl,_,_,rfl,rfl,.inl ⟨by decide,by decide⟩,_,_,rfl,rfl,_,_,rfl,rfl,⟨by show(0:Int)<3+47*(0+(i:Int));omega,by show 3+47*(0+(i:Int))<1073741824;omega⟩,_,rfl,_,_,rfl,⟨lx,rfl⟩,_,_,rfl,rfl,_,_,rfl,rfl,(by show(0:Int)<(x.cps.size:Int)+1;omega),?_,rfl⟩
      rw[←hsv]
      rfl
     rintro σ _ ⟨rfl,rfl⟩
     refine⟨_,rfl,_,rfl,_,rfl,x,rfl,lx,_,rfl,_,_,rfl,rfl,Nat.le_trans (show _+1<=100 by omega) (by decide),_,rfl,_,rfl,_,rfl,x,rfl,lx,_,_,rfl,rfl,Nat.le_trans (show _<=100 by omega) (by decide),?_⟩
     refine⟨_,rfl,_,rfl,lr,_,_,i,rfl,rfl,A3,by rw[Int.zero_add];exact EM hi,?_⟩
     have s6:ai H1 (upd H5 lr (.lst ([V.str a,.str b].set i (.str (yM x sp c))))):=ai.at s5 hlr
     have Qa:upd H5 lr (.lst ([V.str a,.str b].set i (.str (yM x sp c)))) lr=some (.lst ([V.str a,.str b].set i (.str (yM x sp c)))):=ah
     have UD:∀{d ys},H5 d=some (.tup ys)->upd H5 lr (.lst ([V.str a,.str b].set i (.str (yM x sp c)))) d=some (.tup ys):=λ{d ys} h=>by rw[ao (λz=>by rw[z,A3]at h;cases h)];exact h
     rcases DY with⟨rfl,rfl,rfl⟩|⟨rfl,rfl,rfl⟩
     ·obtain⟨_,rfl⟩:_/\v= .iz:=by
       rcases hcn with⟨_,_,_,h⟩|⟨z,_⟩|⟨z,_⟩|⟨z,_⟩
       ·exact⟨trivial,h⟩
       all_goals exact absurd z (by decide)
      have ZT:b=g:=by
       rcases hcn with⟨_,_,h,_⟩|⟨z,_⟩|⟨z,_⟩|⟨z,_⟩
       ·exact h
       all_goals exact absurd z (by decide)
      refine⟨_,rfl,rfl,_,rfl,ZA rfl ⟨_,rfl,_,rfl,by show 2<=sizeLine;decide,λd hd=>?_⟩⟩
      have s7:=ai.upd (o:=.tup [.int (0+((0:Nat):Int)),.int (sp:Int)]) hd
      exact⟨_,b,_,_,_,_,rfl,s6.trans s7,s7 _ _ Qa,.inr (.inr (.inl ⟨Nat.le_refl _,hk,rfl,.inl ZT,λ_=>ZT,d,rfl,ah⟩))⟩
     ·rcases hcn with⟨z,_⟩|⟨_,_,h3,rfl,rfl⟩|⟨_,h3,rfl,_,_,d,rfl,hd⟩|⟨z,_⟩
      ·exact absurd z (by decide)
      ·refine⟨_,rfl,rfl,_,rfl,ZA rfl ⟨_,rfl,_,rfl,by show 2<=sizeLine;decide,λd hd=>?_⟩⟩
       have s7:=ai.upd (o:=.tup [.int (0+((1:Nat):Int)),.int (sp:Int)]) hd
       exact⟨_,_,_,_,_,_,rfl,s6.trans s7,s7 _ _ Qa,.inr (.inr (.inr ⟨rfl,rfl,rfl,d,rfl,ah⟩))⟩
      ·exact⟨_,rfl,rfl,_,rfl,Xg (λz=>by cases z) ⟨_,_,_,_,_,_,rfl,s6,Qa,.inr (.inr (.inl ⟨by decide,h3,rfl,.inr rfl,(λz=>absurd z (by decide)),d,rfl,UD hd⟩))⟩⟩
      ·exact absurd z (by decide)
    ·refine⟨a,b,v,_,_,_,rfl,s5,A3,?_⟩
     rcases hcn with⟨rfl,rfl,rfl,rfl⟩|⟨rfl,rfl,h3,rfl,rfl⟩|⟨h1,h3,ha,hb,_,hd⟩|⟨rfl,_⟩
     ·exact .inr (.inl ⟨rfl,rfl,hk,rfl,rfl⟩)
     ·rw[h3]at hk;exact absurd hk (by decide)
     ·exact .inr (.inr (.inl ⟨by omega,h3,ha,hb,λz=>by omega,hd⟩))
     ·exact absurd hi (by decide)
   ·rintro σ H5 ⟨a,b,v,v7,v8,v9,rfl,s5,A3,⟨z,_⟩|⟨z,_⟩|⟨_,hm3,rfl,hb,_,d,rfl,hd⟩|⟨_,rfl,rfl,d,rfl,hd⟩⟩
    ·cases z
    ·cases z
    ·refine⟨_,b,d,0,a1,_,_,_,rfl,s5,A3,.inl ⟨rfl,Bf.1,Bf.2⟩,by unfold yM;omega,?_,hd⟩
     rcases hb with rfl|rfl
     ·omega
     ·unfold yM;omega
    ·exact⟨a,_,d,1,b1,_,_,_,rfl,s5,A3,.inr ⟨rfl,of,Bg.1,Bg.2⟩,by omega,by unfold yM;omega,hd⟩
  rintro σ H5 ⟨a,b,d,i,j,v7,v8,v9,rfl,s5,A3,hB,za,zb,hd⟩
  refine⟨_,rfl,_,rfl,by show 2<=sizeLine;decide,λr hr=>?_⟩
  have s6:=ai.upd (o:=.tup [.ref lr,.ref d]) hr
  exact kk r lr d a b i j _ ((s1.trans s5).trans s6) ah (s6 _ _ A3) (s6 _ _ hd) hB za zb
theorem xr {ia ic gA cZ:Addr} {gm gp fC cy:FuncData} {p:Pm} (T:Txt K mg p base) (eB:Dn K mg "_law_refused" k8 KU ia gm) (b7:Dn K mg "_law_refusal" k9 RZ ic gp) (rD:aI P w K mg base b8 9 ic gp RZ (ID K p.au (ue K))) (dw:Dn K mg "_law_odd_rows" jX KU gA fC) (yk:aI P w K mg base b8 1 gA fC KU (IG K p.au)) (aX:Dn K mg "_law_same" kH KW cZ cy) (jy:aI P w K mg base b8 2 cZ cy KW (sL K 1)):aI P w K mg base b8 10 ia gm KU (IE K p.au (ue K)):=by
 refine eB.fn.ok jT (λvs H Q E h=>?_) (λcdv A outer s H vs Q E hr h=>?_)
 ·obtain⟨m,pr,T1,f,g,rfl,_⟩:=h
  rfl
 ·obtain⟨m,pr,T1,f,g,rfl,hm,hP,hT,h4,of,og,hf,hg,kk⟩:=h
  refine⟨_,(bJ (bO (w9 (iG (az jy (hr.mono (by decide)) rfl aX.m aX.fn.kp aX.b .nil aN (aa (az rD (hr.mono (by decide)) rfl b7.m b7.fn.kp b7.b .nil aN (aa (pv 1) (aa (pv 2) (aa (pv 3) (aa (aW bC (eX (aa bB (aa bB (aa bB af)))) (aE cj (pv 0) ak) (λ_ _=>rfl)) af))))) (aa (bG (aa bB (aa ak af))) af))))) fq aS)
   (aj (uw (az yk (hr.mono (by decide)) rfl dw.m dw.fn.kp dw.b .nil aN (aa (aE dG (pv 0) ak) (aa (pv 1) (aa (pv 2) (aa (pv 3) af))))) (pX (n:=2) rfl (bS (aM (i:=4) jT.nd rfl (Or.inl rfl)) (bS (aM (i:=5) jT.nd rfl (Or.inl rfl)) lD))))
   (aj (aD (i:=6) jT.nd rfl (Or.inl rfl) (az rD (hr.mono (by decide)) rfl b7.m b7.fn.kp b7.b .nil aN (aa (pv 1) (aa (aW bC (pv 4) ak (λ_ _=>rfl)) (aa (aW bC (pv 4) ak (λ_ _=>rfl)) (aa (aW bC (eX (aa bB (aa bB af))) (aE cj (aE dG (pv 0) ak) ak) (λ_ _=>rfl)) af))))))
   (aq (aL (j4 (cC AH (pv 6) oW (by with_unfolding_all rfl)) (j3 (az jy (hr.mono (by decide)) rfl aX.m aX.fn.kp aX.b .nil aN (aa (pv 6) (aa (aE F2 (aE F2 (bG (aa bB af)) (pv 5)) (bG (aa ak af))) af)))))))))),?_⟩
  obtain⟨wd,hw1,SG,hwa⟩:∃wd:Str,jz wd=false/\(reprText wd).length<=20/\z0 [V.str (Str.ofString ""),.str (Str.ofString "wholes"),.str (Str.ofString "p")] (m % 3)=some (.str wd):=by
   have e:m % 3=0\/m % 3=1\/m % 3=2:=by omega
   rcases e with e|e|e<;>rw[e]<;>exact⟨_,by decide +kernel,by decide +kernel,rfl⟩
  obtain⟨wd2,Xr⟩:∃wd:Str,z0 [V.str (Str.ofString "whole"),.str (Str.ofString "none")] (m / 30 % 2)=some (.str wd):=by
   have e:m / 30 % 2=0\/m / 30 % 2=1:=by omega
   rcases e with e|e<;>rw[e]<;>exact⟨_,rfl⟩
  refine⟨λσ H1=>σ=[some (.int m),some (.ref pr),some (.str f),some (.str g),none,none,none]/\ai H H1,?_,?_⟩
  ·refine⟨_,rfl,_,rfl,_,rfl,by show 3<=sizeLine;decide,λq hq=>?_⟩
   have s1:=ai.upd (o:=.lst [.str (Str.ofString ""),.str (Str.ofString "wholes"),.str (Str.ofString "p")]) hq
   refine⟨_,rfl,_,_,rfl,rfl,(by show(0:Int)<3;decide),q,_,_,_,rfl,rfl,bI.of ah,hwa,pr,T1,f,g,wd,rfl,hP.same s1,hT.same s1,by omega,by omega,.inr ⟨of,og,hw1,SG,λr2 H9 s9 hr2=>⟨by show 2<=sizeLine;decide,λr3 Uv=>?_⟩⟩⟩
   have Cs:=ai.upd (o:=.tup [.str (Str.ofString "no manner"),.int 0]) Uv
   exact⟨_,_,rfl,BP.of (dR.of (Cs _ _ hr2)) (dR.of ah) (by show 2<=100;decide) (.cons .str (.cons .int .nil)),λUN GN=>⟨_,rfl,vf ⟨rfl,(s1.trans s9).trans (Cs.trans GN)⟩⟩⟩
  rintro σ H1 ⟨rfl,s1⟩
  refine⟨_,rfl,_,_,rfl,rfl,⟨by decide,by decide⟩,_,rfl,_,rfl,_,rfl,m / 3,pr,T1,f,g,rfl,by omega,hP.same s1,h4,of,og,hf,hg,λr lr d a b i j H2 s2 hr2 hlr hd hB za zb=>?_⟩
  refine⟨_,_,rfl,dR.of hr2,rfl,_,_,rfl,_,_,rfl,rfl,?_⟩
  have IT:=s1.trans s2
  refine⟨_,rfl,_,rfl,lr,_,_,.str a,rfl,rfl,bI.of hlr,rfl,_,rfl,lr,_,_,.str b,rfl,rfl,bI.of hlr,rfl,by show 2<=sizeLine;decide,λq hq=>?_⟩
  have s3:=ai.upd (o:=.lst [.str (Str.ofString "whole"),.str (Str.ofString "none")]) hq
  refine⟨_,rfl,_,_,rfl,rfl,⟨by decide,by decide⟩,_,_,rfl,rfl,(by show(0:Int)<2;decide),q,_,_,_,rfl,rfl,bI.of ah,Xr,pr,T1,a,b,wd2,rfl,hP.same (IT.trans s3),hT.same (IT.trans s3),za,zb,.inl ⟨i,j,hB,λr4 H4 s4 hr4=>?_⟩⟩
  have Y8:=s3.trans s4
  refine⟨_,rfl,rfl,true,rfl,ng ⟨_,rfl,by show 1<=sizeLine;decide,λt1 ht1=>?_⟩⟩
  have s5:=ai.upd (o:=.tup [.str (Str.ofString "no sign")]) ht1
  refine⟨_,rfl,t1,d,_,_,rfl,rfl,dR.of ah,dR.of ((Y8.trans s5) _ _ hd),by simp,by show 3<=sizeLine;decide,(λz=>by cases z),λ_ t2 DX=>?_⟩
  have s6:=s5.trans (ai.upd (o:=.tup ([.str (Str.ofString "no sign")]++[.int (i:Int),.int (j:Int)])) DX)
  refine⟨by show 1<=sizeLine;decide,λt3 Mb=>?_⟩
  have s7:=ai.upd (o:=.tup [.int 0]) Mb
  refine⟨t2,t3,_,_,rfl,rfl,dR.of (s7 _ _ ah),dR.of ah,by simp,by show 4<=sizeLine;decide,(λz=>by cases z),λ_ t4 Ma=>?_⟩
  have s8:=(s6.trans s7).trans (ai.upd (o:=.tup (([.str (Str.ofString "no sign")]++[.int (i:Int),.int (j:Int)])++[.int 0])) Ma)
  exact⟨_,_,rfl,BP.of (dR.of (s8 _ _ hr4)) (dR.of ah) (by show 4<=100;decide) (.cons .str (.cons .int (.cons .int (.cons .int .nil)))),λH9 s9=>kk H9 ((IT.trans Y8).trans (s8.trans s9))⟩
end
section
variable{P:Program}{w:World}{K:PySem.W.Frag}{mg:Str->Option Value}{base:Heap}
theorem Pa {zO iZ mJ i0 br jD ie dY cZ gQ ia kR gP:Addr} {Ka gX kO gY aT iP gq c7 cy fM gm iJ fL:FuncData} {p:Pm} (T:Txt K mg p base) (KP:Dn K mg "law" qV QK zO Ka) (fR:Dn K mg "_law_prices" mh l4 iZ gX) (BI:aI P w K mg base b8 7 iZ gX l4 (zA K p.au)) (gC:Dn K mg "_law_row" qF R6 mJ kO) (Ab:aI P w K mg base b8 2 mJ kO R6 (IC K)) (fS:Dn K mg "_law_manner" mj ["_law_m"] i0 gY) (BJ:aI P w K mg base b8 1 i0 gY ["_law_m"] Cj) (aA:Dn K mg "_law_next" fZ l4 br aT) (cu:aI P w K mg base b8 1 br aT l4 (pN K)) (gF:Dn K mg "_law_three" nD R0 jD iP) (DO:aI P w K mg base b8 4 jD iP R0 (Fw K p.au)) (eE:Dn K mg "_law_may_end" lu R3 ie gq) (y9:aI P w K mg base b8 1 ie gq R3 FA) (bu:Dn K mg "_law_merged" jY Py dY c7) (ko:aI P w K mg base b8 1 dY c7 Py wN) (aX:Dn K mg "_law_same" kH KW cZ cy) (jy:aI P w K mg base b8 2 cZ cy KW (sL K 1)) (c6:Dn K mg "count_of" mT l8 gQ fM) (sD:aI P w K mg base b8 8 gQ fM l8 (nv (Al P w K p.au p.aB p.aG (ue K)))) (eB:Dn K mg "_law_refused" k8 KU ia gm) (yZ:aI P w K mg base b8 10 ia gm KU (IE K p.au (ue K))) (iK:Dn K mg "cheapest" oS l8 kR iJ) {wI:Tok} (ym:Binds K iJ l8 [.str (Str.ofString "whole") wI]) (Fe:aI P w K mg base b8 8 kR iJ l8 (nv (FL P w K p.au p.aB p.aG (ue K)))) (c5:Dn K mg "in_units" mS PB gP fL) (sC:aI P w K mg base b8 2 gP fL PB (ur K p.au)):aI P w K mg base b8 12 zO Ka QK (Ak K (ue K)):=by
 refine KP.fn.ok mQ (λvs H Q E h=>?_) (λcdv A outer s H vs Q E hr h=>?_)
 ·obtain⟨s,ns,rfl,_⟩:=h
  rfl
 ·obtain⟨s,ns,rfl,ha,hl,hT,kk⟩:=h
  refine⟨_,(aj (aD (i:=1) mQ.nd rfl (Or.inl rfl) (eX (aa ak af)))
   (aj (aD (i:=2) mQ.nd rfl (Or.inl rfl) (az BI (hr.mono (by decide)) rfl fR.m fR.fn.kp fR.b .nil aN (aa (pv 0) (aa (pv 1) af))))
   (aj (aD (i:=3) mQ.nd rfl (Or.inl rfl) (az Ab (hr.mono (by decide)) rfl gC.m gC.fn.kp gC.b .nil aN (aa (pv 0) (aa (pv 1) (aa (cW (pv 2) rfl) (aa ak af))))))
   (aj (aD (i:=4) mQ.nd rfl (Or.inl rfl) (az Ab (hr.mono (by decide)) rfl gC.m gC.fn.kp gC.b .nil aN (aa (pv 0) (aa (pv 1) (aa (cW (pv 2) rfl) (aa ak af))))))
   (bJ (aD (i:=5) mQ.nd rfl (Or.inl rfl) (az BJ (hr.mono (by decide)) rfl fS.m fS.fn.kp fS.b .nil aN (aa (az cu (hr.mono (by decide)) rfl aA.m aA.fn.kp aA.b .nil aN (aa (pv 0) (aa (pv 1) af))) af)))
   (aj (aD (i:=6) mQ.nd rfl (Or.inl rfl) (eX af))
   (aj (aD (i:=7) mQ.nd rfl (Or.inl rfl) (eX af))
   (bJ (eW PassesOwn.never rfl (gi rfl T.jP (aa (aE dM (aC (bz) rfl T.eV ck (aa (pv 3) af)) ak) af)) (aM (i:=8) mQ.nd rfl (Or.inl rfl)) (aj (dF (mU PySem.F.plainAttrs_list PySem.F.slot_list_append PySem.F.type_list_append fu (pv 6) (aa (eX af) af)))
   (aq (eW PassesOwn.never rfl (gi rfl T.jP (aa (aE dM (aC (bz) rfl T.eV ck (aa (pv 4) af)) ak) af)) (aM (i:=9) mQ.nd rfl (Or.inl rfl)) (bJ (dF (mU PySem.F.plainAttrs_list PySem.F.slot_list_append PySem.F.type_list_append fu (aW bC (pv 6) (pv 8) (λ_ _=>rfl)) (aa (az DO (hr.mono (by decide)) rfl gF.m gF.fn.kp gF.b .nil aN (aa (pv 2) (aa (pv 3) (aa (pv 4) (aa (pv 5) (aa (pv 6) (aa (pv 8) (aa (pv 9) af)))))))) af)))
   (aq (bO (iG (az y9 (hr.mono (by decide)) rfl eE.m eE.fn.kp eE.b .nil aN (aa (pv 5) (aa (pv 3) (aa (pv 4) (aa (pv 8) (aa (pv 9) af))))))) (aq (dF (mU PySem.F.plainAttrs_list PySem.F.slot_list_extend PySem.F.type_list_extend uE (pv 7) (aa (oE (N:=["_law_one"]) rfl (λ_=>⟨[],cG.plain (by decide +kernel) rfl (by decide +kernel) (by decide +kernel)⟩) (jn (aW bC (aW bC (pv 6) (pv 8) (λ_ _=>rfl)) (pv 9) (λ_ _=>rfl))) (λ_ _ _ _ _ _ _=>(aM (i:=0) (show(["_law_one"]:List Str).Nodup by decide +kernel) rfl (Or.inl rfl))) (λ_ _ _ _ _ _ _=>(pv 0)) (λ_ _ _ _ _ _ _=>(aR AH (pv 0) oW (by with_unfolding_all rfl)))) af)))) aS)))))))
   (bJ (aD (i:=10) mQ.nd rfl (Or.inl rfl) (az ko (hr.mono (by decide)) rfl bu.m bu.fn.kp bu.b .nil aN (aa (pv 7) af)))
   (bJ (bO (w9 (iG (az jy (hr.mono (by decide)) rfl aX.m aX.fn.kp aX.b .nil aN (aa (az sD (hr.mono (by decide)) rfl c6.m c6.fn.kp c6.b .nil aN (aa (pv 2) (aa (pv 3) (aa (pv 4) (aa (pv 5) af))))) (aa (aW cX (pv 10) ak (λ_ _=>rfl)) af))))) fq aS)
   (bJ (bO (w9 (iG (az yZ (hr.mono (by decide)) rfl eB.m eB.fn.kp eB.b .nil aN (aa (az cu (hr.mono (by decide)) rfl aA.m aA.fn.kp aA.b .nil aN (aa (pv 0) (aa (pv 1) af))) (aa (pv 2) (aa (pv 3) (aa (pv 4) af))))))) fq aS)
   (aq (aL (az jy (hr.mono (by decide)) rfl aX.m aX.fn.kp aX.b .nil aN (aa (aW cX (az Fe (hr.mono (by decide)) rfl iK.m iK.fn.kp iK.b .nil aN (aa (pv 2) (aa (pv 3) (aa (pv 4) (aa (pv 5) af))))) ak (λ_ _=>rfl)) (aa (az sC (hr.mono (by decide)) rfl c5.m c5.fn.kp c5.b .nil aN (aa (pv 2) (aa (aW cX (pv 10) ak (λ_ _=>rfl)) af))) af)))))))))))))))),?_⟩
  refine⟨by show 1<=sizeLine;decide,λt ht=>?_⟩
  have hC:wk K (upd H t (.lst [.int 0])) s t ns 0:=by
   refine⟨?_,hl,ah,by decide⟩
   rw[Wo.set]
   exact ai.seq (λb u e=>Wo.in (aP e ht) e) ha
  have Ye:LT (ue K) (upd H t (.lst [.int 0])):=hT.same (ai.upd ht)
  generalize upd H t (.lst [.int 0])=H0 at hC Ye ⊢
  refine⟨_,rfl,_,rfl,s,t,ns,0,rfl,hC,by decide,λx H1 k1 T1 Yj h4 hx w1 ht1 QS Uq=>?_⟩
  have C1:=hC.off w1 ht1 (by omega)
  obtain⟨sig,_,_,_,_,_,_,dx,Pp,o,mo,d,kvs,QT,_⟩:=id Yj
  have Xq:=Wo.sub _ _ QT
  refine⟨_,rfl,_,rfl,_,rfl,x,_,dx,_,_,rfl,Xq,T.bq,T.gj,o6,s,t,ns,k1,8,T1.1,rfl,C1,by omega,by decide,sig.1,sig.2.1,λf H2 k2 of hf w2 DX Up Xf=>?_⟩
  have C2:=C1.off w2 DX (by omega)
  refine⟨_,rfl,_,rfl,_,rfl,x,_,dx,_,_,rfl,Wo.sub _ _ (w2 _ _ QT),T.bq,T.gj,o6,s,t,ns,k2,8,T1.1,rfl,C2,by omega,by decide,sig.1,sig.2.1,λg H3 k3 og hg w3 Mb QO QN=>?_⟩
  have C3:=C2.off w3 Mb (by omega)
  have w03:=(w1.trans w2).trans w3
  refine⟨λσ H4=>∃m,jz m=true/\σ=[some (.ref s),some (.ref t),some (.ref x),some (.str f),some (.str g),some (.str m),none,none,none,none,none]/\ai (Wo t H3) (Wo t H4)/\H4 t=some (.lst [.int (k3+1)]),?_,?_⟩
  ·refine⟨_,rfl,_,rfl,s,t,ns,k3,rfl,C3,by omega,λm0 hm0 _=>⟨m0,rfl,hm0,λm H4 hm s4=>⟨m,hm,rfl,?_,s4 _ _ ah⟩⟩⟩
   exact Wo.step s4
  rintro σ H4 ⟨m,hm,rfl,w4,Ma⟩
  have YY:=w03.trans w4
  have Yd:=Ye.step hC.at_ YY
  have ZZ:=(Yj.same ((w2.trans w3).trans w4)).same Wo.sub
  have lf:f.length<=sizeLine:=Nat.le_trans (show f.cps.size<=12 by omega) (by decide)
  have lz:g.length<=sizeLine:=Nat.le_trans (show g.cps.size<=12 by omega) (by decide)
  refine⟨by show 0<=sizeLine;decide,λlg ZM=>⟨by show 0<=sizeLine;decide,λle hle=>?_⟩⟩
  have s5:ai H4 (L2.upd (L2.upd H4 lg (.lst [])) le (.lst [])):=(ai.upd ZM).trans (ai.upd hle)
  have WV:lg≠le:=λz=>by rw[←z,ah]at hle;cases hle
  have A5:Q4 (L2.upd (L2.upd H4 lg (.lst [])) le (.lst [])) lg le ((cK T1 m f g).gv (cI m f.cps.size g.cps.size)) 0 g.cps.size []:=⟨WV,[],[],by rw[ao WV,ah];rfl,ah,rfl,λa l hl=>by simp at hl,.nil⟩
  have XQ:H4 le=none:=by
   rw[ao (Ne.symm WV)]at hle
   exact hle
  generalize L2.upd (L2.upd H4 lg (.lst [])) le (.lst [])=H5 at s5 A5 ⊢
  have enn:(cK T1 m f g).n=f.cps.size:=rfl
  have emm:(cK T1 m f g).m=g.cps.size:=rfl
  refine⟨λσ H6=>∃v8 v9,σ=[some (.ref s),some (.ref t),some (.ref x),some (.str f),some (.str g),some (.str m),some (.ref lg),some (.ref le),v8,v9,none]/\ai H4 H6/\∃es,Q4 H6 lg le ((cK T1 m f g).gv (cI m f.cps.size g.cps.size)) (f.cps.size+1) g.cps.size es/\es.length<=1000/\es=(List.range (f.cps.size+1)).flatMap λi=>(List.range (g.cps.size+1)).flatMap λj=>(cK T1 m f g).qk ((cK T1 m f g).gv (cI m f.cps.size g.cps.size)) i j,?_,?_⟩
  ·refine⟨_,rfl,_,_,rfl,⟨lf,rfl⟩,_,_,rfl,rfl,_,rfl,?_,?_,?_⟩
   ·show _<=(f.cps.size:Int)+1
    omega
   ·show(f.cps.size:Int)+1<_
    omega
   have en:(((f.length:Nat):Int)+1).toNat=f.cps.size+1:=by show((f.cps.size:Int)+1).toNat=_;omega
   rw[en]
   refine jA (lo:=0) (n:=f.cps.size+1) (λi σ H6=>∃v8 v9,σ=[some (.ref s),some (.ref t),some (.ref x),some (.str f),some (.str g),some (.str m),some (.ref lg),some (.ref le),v8,v9,none]/\ai H4 H6/\∃es,Q4 H6 lg le ((cK T1 m f g).gv (cI m f.cps.size g.cps.size)) i g.cps.size es/\es.length<=60*i/\es=(List.range i).flatMap λi=>(List.range (g.cps.size+1)).flatMap λj=>(cK T1 m f g).qk ((cK T1 m f g).gv (cI m f.cps.size g.cps.size)) i j)
    ⟨_,_,rfl,s5,[],A5,Nat.le_refl _,rfl⟩ ?_ ?_
   ·rintro i σ H6 hi ⟨v8,v9,rfl,s6,es,A6,hel,hes⟩
    obtain⟨_,WY,Zc,UA,ZQ,M6,_⟩:=id A6
    refine⟨_,rfl,.inl ⟨rfl,_,bI.of UA⟩,by show 0<=sizeLine;decide,λlr hlr=>?_⟩
    have B7:=A6.row hlr UA
    have XO:=ai.free s6 hlr
    have s7:ai H4 (L2.upd (L2.upd H6 lr (.lst [])) lg (.lst (WY.map V.ref++[.ref lr]))):=ai.at (s6.trans (ai.upd hlr)) ZM
    refine⟨lg,_,_,rfl,rfl,ai.upd hlr _ _ UA,by rw[List.length_map,M6];exact Nat.lt_of_le_of_lt (show i<=100 by omega) (by decide),?_⟩
    generalize L2.upd (L2.upd H6 lr (.lst [])) lg (.lst (WY.map V.ref++[.ref lr]))=H7 at B7 s7 ⊢
    refine⟨_,rfl,_,_,rfl,⟨lz,rfl⟩,_,_,rfl,rfl,_,rfl,?_,?_,?_⟩
    ·show _<=(g.cps.size:Int)+1
     omega
    ·show(g.cps.size:Int)+1<_
     omega
    have en:(((g.length:Nat):Int)+1).toNat=g.cps.size+1:=by show((g.cps.size:Int)+1).toNat=_;omega
    rw[en]
    refine jA (lo:=0) (n:=g.cps.size+1) (λj σ H8=>∃v9,σ=[some (.ref s),some (.ref t),some (.ref x),some (.str f),some (.str g),some (.str m),some (.ref lg),some (.ref le),some (.int (i:Int)),v9,none]/\ai H4 H8/\∃zs,HM H8 lg le lr ((cK T1 m f g).gv (cI m f.cps.size g.cps.size)) i j g.cps.size (es++zs)/\zs.length<=3*j/\zs=(List.range j).flatMap λj=>(cK T1 m f g).qk ((cK T1 m f g).gv (cI m f.cps.size g.cps.size)) i j)
     ⟨v9,by rw[Int.zero_add];rfl,s7,[],by rw[List.append_nil];exact B7,Nat.le_refl _,rfl⟩ ?_ ?_
    ·rintro j σ H8 hj ⟨v9,rfl,s8,zs,B8,hzl,hzs⟩
     have Yi:=ZZ.same s8
     obtain⟨ls8,qs8,a1,a2,a3,a4,put⟩:=B8.last
     refine⟨λσ H9=>σ=[some (.ref s),some (.ref t),some (.ref x),some (.str f),some (.str g),some (.str m),some (.ref lg),some (.ref le),some (.int (i:Int)),some (.int (j:Int)),none]/\ai H4 H9/\HM H9 lg le lr ((cK T1 m f g).gv (cI m f.cps.size g.cps.size)) i (j+1) g.cps.size (es++zs),?_,?_⟩
     ·refine⟨_,rfl,_,rfl,lg,_,_,_,rfl,rfl,bI.of a1,a2,.inl ⟨rfl,_,bI.of a3⟩,?_⟩
      refine⟨_,rfl,_,rfl,_,rfl,_,rfl,_,rfl,_,rfl,_,rfl,x,lg,T1,f,g,m,i,j,by rw[Int.zero_add];rfl,Yi,of,og,hm,by omega,by omega,by omega,by omega,λz1 z2=>B8.cell (.inl ⟨by omega,by omega⟩),λz1=>B8.cell (.inl ⟨by omega,by omega⟩),λz1=>B8.cell (.inr ⟨rfl,by omega⟩),λr H9 s9 Xz tr9=>?_⟩
      have B9:=put H9 r s9 Xz tr9
      exact⟨lr,_,_,rfl,rfl,s9 _ _ a3,by rw[List.length_map,a4];exact Nat.lt_of_le_of_lt (show j<=100 by omega) (by decide),by rw[Int.zero_add];rfl,ai.at (s8.trans s9) XO,B9⟩
     rintro σ H9 ⟨rfl,s9,B9⟩
     have eR:∀xs,(cK T1 m f g).qk ((cK T1 m f g).gv (cI m f.cps.size g.cps.size)) i j=xs->zs++xs=(List.range (j+1)).flatMap λj=>(cK T1 m f g).qk ((cK T1 m f g).gv (cI m f.cps.size g.cps.size)) i j:=λxs e=>by
      rw[List.range_succ,List.flatMap_append,←hzs,←e]
      simp
     refine⟨_,rfl,_,rfl,_,rfl,_,rfl,_,rfl,m,f,g,_,_,rfl,hm,by omega,by omega,_,rfl,?_⟩
     cases z:AY m f g ((i:Int),(j:Int))with
     |false =>
      have hen:(cK T1 m f g).en i j=false:=z
      exact jr ⟨_,rfl,s9,zs,B9,by omega,by rw[←eR [] (by unfold Gd.qk;rw[hen];rfl),List.append_nil]⟩
     |true =>
      have hen:(cK T1 m f g).en i j=true:=z
      obtain⟨ls9,qs9,l9,q9,b1,b2,b3,b4,UO,Us,WE⟩:=B9.cell (a:=i) (b:=j) (.inr ⟨rfl,by omega⟩)
      obtain⟨ps9,ZP,XD,grow⟩:=B9.ends
      have hv3:UO.length=3:=Paired.len WE
      refine ng ⟨_,rfl,.inl ⟨rfl,_,bI.of ZP⟩,_,rfl,_,rfl,lg,_,_,_,rfl,rfl,bI.of b1,b2,_,rfl,l9,_,_,_,rfl,rfl,bI.of b3,b4,q9,rfl,⟨_,bI.of Us⟩,λl hl=>?_⟩
      refine tN 3 (λk=>((cK T1 m f g).gv (cI m f.cps.size g.cps.size) (i,j,pA.getD k 0)).isSome) (λk=>UO.getD k .iz) hl (by decide) (λk GA Cs hk=>?_) (λGA Cs=>?_) (λk y GA UN R S Cs hk hy hR hZ=>?_) λGA Cs SX=>?_
      ·exact⟨_,_,bI.of (Cs _ _ Us),List.getElem?_eq_getElem (by omega)⟩
      ·exact⟨_,bI.of (Cs _ _ Us),by omega⟩
      ·obtain⟨rfl,hy⟩:=hy
       have ey:=hy _ (bI.of (Cs _ _ Us))
       obtain⟨c,hc,hv⟩:=GP.Paired.at WE ey
       rw[show pA.getD k 0=c from j9 hc,show UO.getD k .iz=y from j9 ey]at hR
       rw[show pA.getD k 0=c from j9 hc]at hZ
       refine⟨Kp.An,_,rfl,rfl,_,rfl,?_⟩
       have hv:vv H9 ((cK T1 m f g).gv (cI m f.cps.size g.cps.size) (i,j,c)) y:=hv
       cases hG:(cK T1 m f g).gv (cI m f.cps.size g.cps.size) (i,j,c)with
       |none =>
        rw[hG]at hv hZ
        obtain rfl:y= .iz:=hv
        exact jr (hZ rfl _ (ai.refl _))
       |some o =>
        rw[hG]at hv hR
        obtain⟨p9,rfl,_⟩:=hv
        exact ng ⟨_,rfl,hR rfl _ (ai.refl _)⟩
      ·obtain⟨us,eu,pu⟩:=uN.some (f:=λc=>(cK T1 m f g).gv (cI m f.cps.size g.cps.size) (i,j,c)) WE
       rw[eu]at SX
       have hul:us.length<=3:=by rw[Paired.len pu];exact List.length_filterMap_le _ _
       refine⟨le,l,_,_,rfl,rfl,Cs _ _ ZP,SX,?_,_,rfl,ai.at (s9.trans Cs) XQ,zs++pA.filterMap (λc=>(cK T1 m f g).gv (cI m f.cps.size g.cps.size) (i,j,c)),?_,?_,eR _ (by unfold Gd.qk;rw[hen];rfl)⟩
       ·rw[List.length_map,List.length_map,XD,List.length_append]
        exact Nat.le_trans (show _<=1000 by omega) (by decide)
       ·rw[←List.append_assoc]
        exact grow GA us _ Cs (Paired.dP pu λ_ _ z=>Cs _ _ z)
       ·rw[List.length_append,←Paired.len pu]
        omega
    ·rintro σ H8 ⟨v9,rfl,s8,zs,B8,hzl,hzs⟩
     refine⟨_,_,rfl,s8,es++zs,B8.done,by rw[List.length_append];omega,?_⟩
     rw[show List.range (i+1)=List.range i++[i] from List.range_succ,List.flatMap_append,←hes,hzs]
     simp
   ·rintro σ H6 ⟨v8,v9,rfl,s6,es,A6,hel,hes⟩
    exact⟨_,_,rfl,s6,es,A6,by omega,hes⟩
  rintro σ H6 ⟨v8,v9,rfl,s6,es,A6,hel,hes⟩
  have ok:=EU T1 m f g
  obtain⟨b,hb⟩:=uL (f:=(cK T1 m f g).kG) (Br m f.cps.size g.cps.size)
  have hbi:∀b∈cI m f.cps.size g.cps.size,(cK T1 m f g).In (b.1,b.2,112):=λb hb=>by
   have:=dO.mp (List.mem_filter.mp hb).1
   exact⟨this.1,this.2,.inl rfl⟩
  have hend:=Gd.JU (g:=cK T1 m f g) ok (Gs m f.cps.size g.cps.size) hbi hb
  obtain⟨_,WY,Zc,UA,ZQ,M6,_,pe6⟩:=id A6
  refine⟨λσ H7=>∃r,σ=[some (.ref s),some (.ref t),some (.ref x),some (.str f),some (.str g),some (.str m),some (.ref lg),some (.ref le),v8,v9,some (.ref r)]/\ai H4 H7/\H7 r=some (pO ((cK T1 m f g).kG b,(cK T1 m f g).tot (cI m f.cps.size g.cps.size) ((cK T1 m f g).kG b))),?_,?_⟩
  ·refine⟨_,rfl,le,es,rfl,⟨Zc,ZQ,Paired.dP pe6 λ_ _ z=>Wx.sub _ _ z⟩,hel,λv H7 s7 o7=>?_⟩
   rw[hes,show GP.mg ((List.range (f.cps.size+1)).flatMap λi=>(List.range (g.cps.size+1)).flatMap λj=>(cK T1 m f g).qk ((cK T1 m f g).gv (cI m f.cps.size g.cps.size)) i j)=_ from hend]at o7
   obtain⟨r,rfl,Uu⟩:=o7
   exact⟨r,rfl,s6.trans s7,Uu⟩
  rintro σ H7 ⟨r,rfl,s7,Uu⟩
  have hP7:=ZZ.same s7
  refine⟨λσ H8=>σ=[some (.ref s),some (.ref t),some (.ref x),some (.str f),some (.str g),some (.str m),some (.ref lg),some (.ref le),v8,v9,some (.ref r)]/\Lo P w (ue K) H4 H8/\H8 r=some (pO ((cK T1 m f g).kG b,(cK T1 m f g).tot (cI m f.cps.size g.cps.size) ((cK T1 m f g).kG b))),?_,?_⟩
  ·refine⟨_,rfl,_,rfl,_,rfl,_,rfl,x,T1,f,g,m,rfl,hP7,Yd.same s7,by omega,by omega,λ_ _ _=>⟨by omega,by omega,λb' H8 LN hb'=>?_⟩,λi j bad=>absurd ⟨of,og⟩ bad.no,λ_ _ z=>by rw[hm]at z;cases z⟩
   obtain rfl:b=b':=Option.some.inj (hb.symm.trans hb')
   exact⟨_,rfl,r,_,_,_,rfl,rfl,dR.of (LN.tup Uu),rfl,_,_,rfl,BP.int,λH9 s9=>⟨_,rfl,vf ⟨rfl,(ai.lo s7 Yd LN).then s9,s9 _ _ (LN.tup Uu)⟩⟩⟩
  rintro σ H8 ⟨rfl,LN,XA⟩
  have M1:=LN.nx _ _ (Nt.lst Ma)
  have W4:Lo P w (ue K) (Wo t H0) H8:=(Lo.of (Ye.wo hC.at_) (YY.trans Wo.sub)).trans LN
  have C8:wk K H8 s t ns (k3+1):=W4.ctr hC M1 (by omega)
  have W0:Lo P w (ue K) (Wo t H4) (Wo t H8):=(LN.cut Yd Ma).wo M1
  have Yi:BR K p.au (Wo t H8) x T1:=W0.pr (Yj.same ((w2.trans w3).trans w4))
  have z9:BR K p.au (Wo t (L2.upd H8 t (.lst [.int (k3+1+1)]))) x T1:=by rw[Wo.set];exact Yi
  have nrt:r≠t:=λz=>by rw[z,M1]at XA;cases XA
  refine⟨λσ H9=>σ=[some (.ref s),some (.ref t),some (.ref x),some (.str f),some (.str g),some (.str m),some (.ref lg),some (.ref le),v8,v9,some (.ref r)]/\ai (L2.upd H8 t (.lst [.int (k3+1+1)])) H9,?_,?_⟩
  ·exact⟨_,rfl,_,rfl,s,t,ns,k3+1,rfl,C8,by omega,λm0 hm0 _=>⟨_,rfl,_,rfl,_,rfl,m0,x,T1,f,g,rfl,hm0,z9.same Wo.sub,LN.lt.put M1,h4,of,og,by omega,by omega,λH9 s9=>⟨_,rfl,vf ⟨rfl,s9⟩⟩⟩⟩
  rintro σ H9 ⟨rfl,s9⟩
  have Xz:=s9 _ _ (show L2.upd H8 t (.lst [.int (k3+1+1)]) r=_ by rw[ao nrt];exact XA)
  refine⟨_,rfl,_,rfl,_,rfl,_,rfl,x,T1,f,g,m,rfl,(z9.same Wo.sub).same s9,(LN.lt.put M1).same s9,by omega,by omega,λ_ _ _=>⟨by omega,by omega,λq GA Pn _ hch=>?_⟩,λi j bad=>absurd ⟨of,og⟩ bad.no,λ_ _ z=>by rw[hm]at z;cases z⟩
  obtain⟨b',c,pb,hb',hq,hc,_⟩:=hch
  obtain rfl:b=b':=Option.some.inj (hb.symm.trans hb')
  refine⟨q,_,_,_,rfl,rfl,dR.of hq,rfl,_,rfl,_,rfl,r,_,_,_,rfl,rfl,dR.of (Pn.tup Xz),rfl,x,_,T1.1,T1.2.1,T1.2.2.1,T1.2.2.2,rfl,Pn.pr ((z9.same Wo.sub).same s9),λq2 UN GN hq2 hq5=>?_⟩
  exact⟨_,_,rfl,BP.of (dR.of (GN _ _ hc)) (dR.of hq5) (by show 2<=100;decide) (.cons .int (.cons .int .nil)),λNn s12=>kk Nn ((Pn.lt.same GN).same s12)⟩
end
def kC(K:PySem.W.Frag)(x y:Str)(s:Stmt):Prop:=∃f oc od sl kV dc pm an cd ct,PySem.W.nsIn K mainGlobals x=some (some (.ref f))/\K.lookup f=some ⟨oc,od,.func (PySem.W.fnOf y y (gg s) (d8 s) (ay s) .none kV dc pm an cd ct),sl⟩/\PySem.W.codeIn K cd y=true/\PySem.W.keepIn K (.ref f)=true
theorem kC.mk{K:PySem.W.Frag}{x y:Str}{s:Stmt}{f:Addr}{oc kV dc pm cd ct:Value}{od an:Option Addr}{sl:Array (Option Value)}(a:PySem.W.nsIn K mainGlobals x=some (some (.ref f)))(l:K.lookup f=some ⟨oc,od,.func (PySem.W.fnOf y y (gg s) (d8 s) (ay s) .none kV dc pm an cd ct),sl⟩)(c:PySem.W.codeIn K cd y=true)(k:PySem.W.keepIn K (.ref f)=true):kC K x y s:=⟨f,oc,od,sl,kV,dc,pm,an,cd,ct,a,l,c,k⟩
theorem RX{α:Type}{l:List α}(h:l.length=7):∃a b c d e f g,l=[a,b,c,d,e,f,g]:=by
 match l,h with
 |[a,b,c,d,e,f,g],_=>exact⟨a,b,c,d,e,f,g,rfl⟩
theorem To{K:PySem.W.Frag}{h:Heap}{mg:Str->Option Value}{x y:Str}{s:Stmt}{ps:List Str}(X:K.In h)(G:h.Ns mainGlobals mg)(d:kC K x y s)(b:∀(kV doc pm:Value) (an:Option Addr) (cdv ct:Value) (us:List Value),us.length=ps.length->bindArgs (PySem.W.fnOf y y (gg s) (d8 s) (ay s) .none kV doc pm an cdv ct) ⟨us,[]⟩=pure (ps.zip us):=by intro _ _ _ _ _ _ us hl;first|(obtain⟨_,rfl⟩:=GP.LP hl;exact rfl)|(obtain⟨_,_,rfl⟩:=GP.Px hl;exact rfl)|(obtain⟨_,_,_,rfl⟩:=GP.JB hl;exact rfl)|(obtain⟨_,_,_,_,rfl⟩:=GP.LO hl;exact rfl)|(obtain⟨_,_,_,_,_,rfl⟩:=GP.JA hl;exact rfl)|(obtain⟨_,_,_,_,_,_,rfl⟩:=GP.RY hl;exact rfl)|(obtain⟨_,_,_,_,_,_,_,rfl⟩:=RX hl;exact rfl)):∃f fd,Da K mg x y s ps f fd:=by
 obtain⟨f,oc,od,sl,kV,dc,pm,an,cd,ct,a,l,c,k⟩:=d
 exact⟨f,_,uK l c k,Binds.all (b kV dc pm an cd ct),PySem.W.mg_of X G a⟩
theorem bH{K:PySem.W.Frag}{h:Heap}{mg:Str->Option Value}{x:Str}{s:Stmt}{ps:List Str}(X:K.In h)(G:h.Ns mainGlobals mg)(d:kC K x x s)(b:∀(kV doc pm:Value) (an:Option Addr) (cdv ct:Value) (us:List Value),us.length=ps.length->bindArgs (PySem.W.fnOf x x (gg s) (d8 s) (ay s) .none kV doc pm an cdv ct) ⟨us,[]⟩=pure (ps.zip us):=by intro _ _ _ _ _ _ us hl;first|(obtain⟨_,rfl⟩:=GP.LP hl;exact rfl)|(obtain⟨_,_,rfl⟩:=GP.Px hl;exact rfl)|(obtain⟨_,_,_,rfl⟩:=GP.JB hl;exact rfl)|(obtain⟨_,_,_,_,rfl⟩:=GP.LO hl;exact rfl)|(obtain⟨_,_,_,_,_,rfl⟩:=GP.JA hl;exact rfl)|(obtain⟨_,_,_,_,_,_,rfl⟩:=GP.RY hl;exact rfl)|(obtain⟨_,_,_,_,_,_,_,rfl⟩:=RX hl;exact rfl)):∃f fd,Dn K mg x s ps f fd:=by
 obtain⟨f,fd,e⟩:=To X G d b
 exact⟨f,fd,e.fn,e.b,e.m⟩
theorem kC.ns{K:PySem.W.Frag}{h:Heap}{mg:Str->Option Value}{x y:Str}{s:Stmt}(d:kC K x y s)(X:K.In h)(G:h.Ns mainGlobals mg):∀f,mg x=some (.ref f)->PySem.W.nsIn K mainGlobals x=some (some (.ref f)):=λf hf=>by
 obtain⟨f',oc,od,sl,kV,dc,pm,an,cd,ct,a,_⟩:=d
 have e:=(PySem.W.mg_of X G a).symm.trans hf
 cases e
 exact a
def T7(K:PySem.W.Frag)(x:Str)(s:Stmt)(v:Str):Prop:=∃f oc od sl D u RM n sl2 kV dc pm an cd ct,PySem.W.nsIn K mainGlobals x=some (some (.ref f))/\K.lookup f=some ⟨oc,od,.func (PySem.W.fnOf x x (gg s) (d8 s) (ay s) (.ref D) kV dc pm an cd ct),sl⟩/\PySem.W.codeIn K cd x=true/\PySem.W.keepIn K (.ref f)=true/\K.lookup D=some ⟨.type "tuple",RM,.seq #[.str v u] n,sl2⟩
theorem T7.mk {K:PySem.W.Frag} {x v:Str} {s:Stmt} {f D:Addr} {oc kV dc pm cd ct:Value} {od RM an:Option Addr} {sl sl2:Array (Option Value)} {u:Tok} {n:Nat} (a:PySem.W.nsIn K mainGlobals x=some (some (.ref f))) (l:K.lookup f=some ⟨oc,od,.func (PySem.W.fnOf x x (gg s) (d8 s) (ay s) (.ref D) kV dc pm an cd ct),sl⟩) (c:PySem.W.codeIn K cd x=true) (k:PySem.W.keepIn K (.ref f)=true) (e:K.lookup D=some ⟨.type "tuple",RM,.seq #[.str v u] n,sl2⟩):T7 K x s v:=⟨f,oc,od,sl,D,u,RM,n,sl2,kV,dc,pm,an,cd,ct,a,l,c,k,e⟩
theorem Qo{K:PySem.W.Frag}{h:Heap}{mg:Str->Option Value}{x v a1 a2 a3 a4:Str}{s:Stmt}(X:K.In h)(G:h.Ns mainGlobals mg)(d:T7 K x s v)
  (b:∀(D:Addr) (kV doc pm:Value) (an:Option Addr) (cdv ct v1 v2 v3 v4:Value) (sh:Shared) (o:Obj) (u:Tok) (n:Nat),sh.heap.get? D=some o->o.data= .seq #[.str v u] n->BindsTo sh (PySem.W.fnOf x x (gg s) (d8 s) (ay s) (.ref D) kV doc pm an cdv ct) ⟨[v1,v2,v3,v4],[]⟩ [(a1,v1),(a2,v2),(a3,v3),(a4,v4)]:=by intro _ _ _ _ _ _ _ _ _ _ _ _ _ _ _ ho hs;exact BindsTo.of_defaults rfl ho hs rfl rfl)
  (b2:∀(D:Addr) (kV doc pm:Value) (an:Option Addr) (cdv ct v1 v2 v3:Value) (sh:Shared) (o:Obj) (u:Tok) (n:Nat),sh.heap.get? D=some o->o.data= .seq #[.str v u] n->BindsTo sh (PySem.W.fnOf x x (gg s) (d8 s) (ay s) (.ref D) kV doc pm an cdv ct) ⟨[v1,v2,v3],[]⟩ [(a1,v1),(a2,v2),(a3,v3),(a4,.str v u)]:=by intro _ _ _ _ _ _ _ _ _ _ _ _ _ _ ho hs;exact BindsTo.of_defaults rfl ho hs rfl rfl):∃f fd u,Dn K mg x s [a1,a2,a3,a4] f fd/\Binds K fd [a1,a2,a3,a4] [.str v u]:=by
 obtain⟨f,oc,od,sl,D,u,RM,n,sl2,kV,dc,pm,an,cd,ct,a,l,c,k,e⟩:=d
 refine⟨f,_,u,⟨uK l c k,λsh us hX hl=>?_,PySem.W.mg_of X G a⟩,λsh us hX hl=>?_⟩
 ·rw[List.append_nil]at hl ⊢
  obtain⟨v1,v2,v3,v4,rfl⟩:=GP.LO hl
  exact b D kV dc pm an cd ct v1 v2 v3 v4 sh _ u n (hX _ _ e) rfl
 ·obtain⟨v1,v2,v3,rfl⟩:=GP.JB (show us.length=3 by rw[List.length_append]at hl;exact Nat.succ.inj hl)
  exact b2 D kV dc pm an cd ct v1 v2 v3 sh _ u n (hX _ _ e) rfl
theorem all_mk {l:PySem.W.OpenLaw} {w:World} {K:PySem.W.Frag} {h:Heap} {mg:Str->Option Value} {fa:Addr} (X:K.In h) (G:h.Ns mainGlobals mg) (hfa:mg "law" =some (.ref fa))
  {lV:Tok}
  {ni:Tok}
  {jv:Addr} {CO:Option Addr} {EF:Nat} {Cr:Array (Option Value)} {Ca B6 B5:Tok}
  {kU:Addr} {Ex:Option Addr} {G1:Nat} {Eg:Array (Option Value)} {D8 D7 D6 D5:Tok}
  {pB:Addr} {LD:Option Addr} {Pj:Nat} {Lj:Array (Option Value)} {Lf Le Ld:Tok}
  {au:Addr}
  {aK:Addr}
  {fX:Addr}
  {aG:Addr}
  {aB:Addr}
  (u0:pH K "first_begin" =true)
  (u1:pH K "state_behind" =true)
  (u2:PySem.W.nsIn K mainGlobals "FIRST_SIGN" =some (some (.int 32 lV)))
  (u3:PySem.W.nsIn K mainGlobals "LAST_SIGN" =some (some (.int 126 ni)))
  (u4:PySem.W.nsIn K mainGlobals "NO_SIGNS" =some (some (.ref jv)))
  (u5:K.lookup jv=some ⟨.type "tuple",CO,.seq #[.int 34 Ca,.int 37 B6,.int 45 B5] EF,Cr⟩)
  (u6:PySem.W.nsIn K mainGlobals "MANNERS" =some (some (.ref kU)))
  (u7:K.lookup kU=some ⟨.type "tuple",Ex,.seq #[.str (Str.ofString "whole") D8,.str (Str.ofString "within") D7,.str (Str.ofString "over") D6,.str (Str.ofString "stretch") D5] G1,Eg⟩)
  (u8:PySem.W.nsIn K mainGlobals "CAME" =some (some (.ref pB)))
  (u9:K.lookup pB=some ⟨.type "tuple",LD,.seq #[.str (Str.ofString "p") Lf,.str (Str.ofString "a") Le,.str (Str.ofString "b") Ld] Pj,Lj⟩)
  (We:PySem.W.nsIn K mainGlobals "Prices" =some (some (.ref au)))
  (Wd:PySem.W.plainGet K au Str.empty=true) (Wc:PySem.W.hasDictIn K au=true) (Wb:PySem.W.plainOver K au=true) (Wa:PySem.W.findIn K (.ref au) "__setattr__" =some (some (.builtin "object.__setattr__"))) (V9:PySem.W.makesIn K au=true) (V8:PySem.W.keepIn K (.ref au)=true)
  (u17:bN K au "signs")
  (V7:bN K au "pairs")
  (V6:bN K au "opening")
  (V5:bN K au "more")
  (V4:bN K au "factors")
  (V3:bN K au "unit")
  (V2:bN K au "costs")
  (V1:bN K au "opening_units")
  (V0:bN K au "more_units")
  (VZ:PySem.W.nsIn K mainGlobals "Ground" =some (some (.ref aK)))
  (VY:PySem.W.plainGet K aK Str.empty=true) (VX:PySem.W.hasDictIn K aK=true) (VW:PySem.W.plainOver K aK=true) (VV:PySem.W.findIn K (.ref aK) "__setattr__" =some (some (.builtin "object.__setattr__"))) (VU:PySem.W.makesIn K aK=true) (VT:PySem.W.keepIn K (.ref aK)=true)
  (VS:bN K aK "steps")
  (VR:bN K aK "begins")
  (VQ:bN K aK "ends")
  (VP:PySem.W.nsIn K mainGlobals "WeaveError" =some (some (.ref fX)))
  (VO:PySem.W.nsIn K mainGlobals "NoManner" =some (some (.ref aG)))
  (u38:PySem.W.excIn K aG [.type "ValueError",.type "Exception",.type "BaseException",.type "object"] "ValueError.__new__" =true)
  (VN:PySem.W.hasDictIn K aG=true) (VM:PySem.W.typeIn K (.ref aG)=some (.type "type")) (VL:PySem.W.mroIn K aG (.type "BaseException")=some true)
  (VJ:PySem.W.findIn K (.ref aG) "__getattribute__" =some (some (.builtin "BaseException.__getattribute__")))
  (VI:PySem.W.findIn K (.ref aG) "__getattr__" =some none)
  (VH:PySem.W.hasDictIn K aG=true)
  (VG:PySem.W.findIn K (.ref aG) "__class__" =some (some (.builtin "object.__class__")))
  (VF:PySem.W.specialIn K (.builtin "object.__class__") "__get__" =some (some (.builtin "getset_descriptor.__get__")))
  (VE:PySem.W.takesIn K (.builtin "object.__class__")=some true)
  (VD:PySem.W.mroIn K aG (.type "object")=some true)
  (VC:PySem.W.mroIn K aG (.type "BaseException")=some true)
  (VB:PySem.W.nsIn K mainGlobals "NoSign" =some (some (.ref aB)))
  (VA:PySem.W.hasDictIn K aB=true) (Vz:PySem.W.typeIn K (.ref aB)=some (.type "type")) (Vy:PySem.W.mroIn K aB (.type "BaseException")=some true)
  (Vx:PySem.W.findIn K (.ref aB) "__getattribute__" =some (some (.builtin "BaseException.__getattribute__")))
  (Vw:PySem.W.findIn K (.ref aB) "__getattr__" =some none)
  (Vv:PySem.W.hasDictIn K aB=true)
  (Vu:PySem.W.findIn K (.ref aB) "__class__" =some (some (.builtin "object.__class__")))
  (Vt:PySem.W.specialIn K (.builtin "object.__class__") "__get__" =some (some (.builtin "getset_descriptor.__get__")))
  (Vs:PySem.W.takesIn K (.builtin "object.__class__")=some true)
  (Vr:PySem.W.mroIn K aB (.type "object")=some true)
  (Vq:PySem.W.mroIn K aB (.type "BaseException")=some true)
  (Vp:PySem.W.hasDictIn K aB=true) (Vo:((PySem.W.clsIn K aB).any λcd=>rF cd.mro)=true) (Vn:PySem.W.findIn K (.ref aB) "__setattr__" =some (some (.builtin "object.__setattr__"))) (Vm:PySem.W.keepIn K (.ref aB)=true)
  (Vl:bN K aB "row")
  (Vk:bN K aB "place")
  (Vj:PySem.W.specialIn K (.ref fX) "__getattribute__" =some (some (.builtin "type.__getattribute__"))) (Vi:PySem.W.readsIn K fX (.type "type")=true) (Vh:PySem.W.findCls K (.ref fX) (.type "type") "__init__" =some (.val (.builtin "ValueError.__init__")))
  (Vg:PySem.W.subIn K (.ref aB) (.ref aB)=some true)
  (Vf:PySem.W.subIn K (.ref aG) (.ref aB)=some false)
  (Ve:PySem.W.subIn K (.ref aG) (.ref aG)=some true)
  (u74:PySem.W.kitOne K (.ref aB) (.ref aG)=some false)
  (Vd:PySem.W.kitOne K (.ref aG) (.ref aB)=some false)
  {od0 an0:Option Addr} {sl0:Array (Option Value)} {oc0 kV0 dc0 pm0 cd0 ct0:Value} {aY:Addr}
  (YZ:PySem.W.findIn K (.ref aB) "__init__" =some (some (.ref aY))) (Vc:PySem.W.isFn K (.ref aY)=true) (Vb:K.lookup aY=some ⟨oc0,od0,.func (PySem.W.fnOf "__init__" "NoSign.__init__" (gg bU) (d8 bU) (ay bU) .none kV0 dc0 pm0 an0 cd0 ct0),sl0⟩) (Va:PySem.W.codeIn K cd0 "NoSign.__init__" =true) (U9:PySem.W.keepIn K (.ref aY)=true)
  (u81:kC K "greatest_divisor" "greatest_divisor" cY)
  (U8:kC K "lowest" "lowest" sQ)
  (U7:kC K "is_sign" "is_sign" qH)
  (U6:kC K "are_signs" "are_signs" nK)
  (U5:kC K "check_signs" "check_signs" lA)
  (U4:kC K "check_lengths" "check_lengths" jm)
  (U3:kC K "lowest_price" "lowest_price" iF)
  (U1:kC K "lowest_prices" "lowest_prices" jk)
  (U0:kC K "all_unders" "all_unders" mz)
  (UZ:kC K "unit_factors" "unit_factors" jV)
  (UY:kC K "product_of" "product_of" lZ)
  (UX:kC K "by_unit" "by_unit" oA)
  (UW:kC K "costs_by_signs" "costs_by_signs" iM)
  {WM YK:Option Addr} {Ww:Array (Option Value)} {WQ Xe YE WH Tt YI:Value} {bw:Addr}
  (UU:PySem.W.findIn K (.ref au) "__init__" =some (some (.ref bw))) (UT:PySem.W.isFn K (.ref bw)=true) (US:K.lookup bw=some ⟨WQ,WM,.func (PySem.W.fnOf "__init__" "Prices.__init__" (gg bT) (d8 bT) (ay bT) .none Xe YE WH YK Tt YI),Ww⟩) (UR:PySem.W.codeIn K Tt "Prices.__init__" =true) (UQ:PySem.W.keepIn K (.ref bw)=true)
  (UP:kC K "pair_cost" "pair_cost" lJ)
  (OI:kC K "opening_cost" "opening_cost" iE)
  (OH:kC K "more_cost" "more_cost" lK)
  (OG:kC K "in_units" "in_units" mS)
  (OF:kC K "check_known" "check_known" lC)
  (OD:kC K "check_rows" "check_rows" mq)
  (OC:kC K "check_manner" "check_manner" j0)
  (OB:kC K "alone_cost" "alone_cost" mw)
  (OA:kC K "may_begin" "may_begin" nB)
  (Oz:kC K "may_end" "may_end" qD)
  (Ox:kC K "all_places" "all_places" mD)
  (Ow:kC K "steps_from" "steps_from" lY)
  (Ov:kC K "all_steps" "all_steps" nL)
  (Ou:kC K "all_ends" "all_ends" oU)
  {WL YJ:Option Addr} {Wv:Array (Option Value)} {WO Xd YD WG Tr YH:Value} {aQ:Addr}
  (Ot:PySem.W.findIn K (.ref aK) "__init__" =some (some (.ref aQ))) (Oq:PySem.W.isFn K (.ref aQ)=true) (Oo:K.lookup aQ=some ⟨WO,WL,.func (PySem.W.fnOf "__init__" "Ground.__init__" (gg bL) (d8 bL) (ay bL) .none Xd YD WG YJ Tr YH),Wv⟩) (Om:PySem.W.codeIn K Tr "Ground.__init__" =true) (Ol:PySem.W.keepIn K (.ref aQ)=true)
  (Oj:kC K "least_rests" "least_rests" je)
  (Oi:kC K "ends_there" "ends_there" jZ)
  (La:kC K "first_begin" "first_begin" jf)
  (K9:kC K "state_behind" "state_behind" jW)
  (Oh:kC K "first_moves" "first_moves" ly)
  (u123:T7 K "cheapest" oS (Str.ofString "whole"))
  (Og:kC K "all_counts" "all_counts" mE)
  (Oe:kC K "count_of" "count_of" mT)
  (Od:kC K "_law_next" "_law_next" fZ)
  (Oc:kC K "_law_great" "_law_great" nJ)
  (Ob:kC K "_law_signs" "_law_signs" nF)
  (Oa:kC K "_law_price" "_law_price" nG)
  (N9:kC K "_law_table" "_law_table" nE)
  (N8:kC K "_law_prices" "_law_prices" mh)
  (N7:kC K "_law_row" "_law_row" qF)
  (N6:kC K "_law_manner" "_law_manner" mj)
  (N5:kC K "_law_same" "_law_same" kH)
  (N4:kC K "_law_gap" "_law_gap" qG)
  (N3:kC K "_law_may_begin" "_law_may_begin" jl)
  (N2:kC K "_law_may_end" "_law_may_end" lu)
  (N1:kC K "_law_merged" "_law_merged" jY)
  (NZ:kC K "_law_grown" "_law_grown" nH)
  (NY:kC K "_law_three" "_law_three" nD)
  (NX:kC K "_law_refusal" "_law_refusal" k9)
  (NW:kC K "_law_odd_rows" "_law_odd_rows" jX)
  (NV:kC K "_law_refused" "_law_refused" k8)
  {WK Tu:Option Addr} {Wu:Array (Option Value)} {WN So Tj RH Qt Tp:Value} {zO:Addr}
  (K8:PySem.W.nsIn K mainGlobals "law" =some (some (.ref zO))) (NU:K.lookup zO=some ⟨WN,WK,.func (PySem.W.fnOf "law" "law" (gg qV) (d8 qV) (ay qV) .none So Tj RH Tu Qt Tp),Wu⟩) (NT:PySem.W.codeIn K Qt "law" =true) (NS:PySem.W.keepIn K (.ref zO)=true)
  (K7:EZ K aB aY=true)
  (NR:PySem.W.nsIn K mainGlobals "abs" =some none)
  (NQ:PySem.W.nsIn K mainGlobals "len" =some none)
  (NP:PySem.W.nsIn K mainGlobals "ord" =some none)
  (NO:PySem.W.nsIn K mainGlobals "set" =some none)
  (NN:PySem.W.nsIn K mainGlobals "tuple" =some none)
  (NL:PySem.W.nsIn K mainGlobals "zip" =some none)
  (NJ:PySem.W.nsIn K mainGlobals "enumerate" =some none)
  (NI:PySem.W.nsIn K mainGlobals "range" =some none)
  (NH:PySem.W.nsIn K mainGlobals "isinstance" =some none)
  (NG:PySem.W.nsIn K mainGlobals "int" =some none)
  (NF:PySem.W.nsIn K mainGlobals "bool" =some none)
  (NC:PySem.W.nsIn K mainGlobals "all" =some none)
  (NB:PySem.W.nsIn K mainGlobals "list" =some none)
  (Nz:PySem.W.nsIn K mainGlobals "str" =some none)
  (Ny:PySem.W.nsIn K mainGlobals "min" =some none)
  (Nx:PySem.W.nsIn K mainGlobals "reversed" =some none)
  (Nv:PySem.W.nsIn K mainGlobals "sum" =some none)
  : ∃fd:FuncData,(∀(s:Shared) (v:Value),BindsTo s fd ⟨[v],[]⟩ [("_law_script",v)])/\∀base:Heap,K.In base->base.Ns mainGlobals mg->Nq base mg->aI l.prog w K mg base b8 12 fa fd QK (Ak K (ue K)):=by
 have e:=hfa.symm.trans (PySem.W.mg_of X G K8)
 cases e
 obtain⟨p,hp⟩:∃p:Pm,p=(⟨lV,ni,jv,kU,pB,au,aK,fX,aG,aB⟩:Pm):=⟨_,rfl⟩
 have t9:=uK (st:=bU) Vb Va U9
 have dJ:Dm K "__init__" "NoSign.__init__" bU QL _ _:=⟨t9,Binds.all (ps:=QL) λus hl=>by obtain⟨_,_,_,rfl⟩:=GP.JB hl;exact rfl⟩
 obtain⟨bf,aV,aJ⟩:=bH (ps:=LS) X G u81
 obtain⟨oK,mG,lO⟩:=bH (ps:=Sn) X G U8
 obtain⟨mL,kQ,jM⟩:=bH (ps:=["sign"]) X G U7
 obtain⟨jJ,iV,gK⟩:=bH (ps:=["text"]) X G U6
 obtain⟨iu,gw,eG⟩:=bH (ps:=["signs"]) X G U5
 obtain⟨fG,eO,cV⟩:=bH (ps:=Sk) X G U4
 obtain⟨cO,cg,bh⟩:=bH (ps:=JD) X G U3
 obtain⟨fE,eL,cT⟩:=bH (ps:=["row"]) X G U1
 obtain⟨i9,g7,fU⟩:=bH (ps:=Sl) X G U0
 obtain⟨gy,fz,dm⟩:=bH (ps:=["unders"]) X G UZ
 obtain⟨iY,gW,fQ⟩:=bH (ps:=["factors"]) X G UY
 obtain⟨i7,gO,cR⟩:=bH (ps:=PD) X G UX
 obtain⟨eT,dH,cB⟩:=bH (ps:=Sj) X G UW
 have t8:=uK (st:=bT) US UR UQ
 have dI:Dm K "__init__" "Prices.__init__" bT QM _ _:=⟨t8,Binds.all (ps:=QM) λus hl=>by obtain⟨_,_,_,_,_,rfl⟩:=GP.JA hl;exact rfl⟩
 obtain⟨fN,dW,cA⟩:=bH (ps:=PC) X G UP
 obtain⟨cN,b9,bE⟩:=bH (ps:=l5) X G OI
 obtain⟨fO,dX,bA⟩:=bH (ps:=l5) X G OH
 obtain⟨gP,fL,c5⟩:=bH (ps:=PB) X G OG
 obtain⟨iw,gx,eK⟩:=bH (ps:=Si) X G OF
 obtain⟨i6,gZ,fT⟩:=bH (ps:=Sh) X G OD
 obtain⟨gB,fD,dB⟩:=bH (ps:=["manner"]) X G OC
 obtain⟨i8,g6,cQ⟩:=bH (ps:=Sg) X G OB
 obtain⟨jC,iO,gE⟩:=bH (ps:=Sf) X G OA
 obtain⟨mH,kN,jL⟩:=bH (ps:=Se) X G Oz
 obtain⟨ja,g8,fV⟩:=bH (ps:=Sd) X G Ox
 obtain⟨iX,gU,fP⟩:=bH (ps:=Sb) X G Ow
 obtain⟨jK,iW,gM⟩:=bH (ps:=Sa) X G Ov
 obtain⟨kT,jB,iL⟩:=bH (ps:=R9) X G Ou
 have ua:=uK (st:=bL) Oo Om Ol
 have bM:Dm K "__init__" "Ground.__init__" bL MV _ _:=⟨ua,Binds.all (ps:=MV) λus hl=>by obtain⟨_,_,_,_,_,rfl⟩:=GP.JA hl;exact rfl⟩
 obtain⟨c9,cL,bK⟩:=bH (ps:=Pz) X G Oj
 obtain⟨dZ,c8,bR⟩:=bH (ps:=l6) X G Oi
 obtain⟨dh,cM,bF⟩:=bH (ps:=l7) X G La
 obtain⟨gz,fB,cP⟩:=bH (ps:=l6) X G K9
 obtain⟨ig,gu,eF⟩:=bH (ps:=R8) X G Oh
 obtain⟨kR,iJ,wI,iK,ym⟩:=Qo (a1:= "prices") (a2:= "first") (a3:= "second") (a4:= "manner") X G u123
 obtain⟨jb,g9,fW⟩:=bH (ps:=l7) X G Og
 obtain⟨gQ,fM,c6⟩:=bH (ps:=l8) X G Oe
 obtain⟨br,aT,aA⟩:=bH (ps:=l4) X G Od
 obtain⟨jI,iU,gJ⟩:=bH (ps:=l4) X G Oc
 obtain⟨jF,iR,gH⟩:=bH (ps:=KY) X G Ob
 obtain⟨jG,iS,bW⟩:=bH (ps:=R7) X G Oa
 obtain⟨jE,iQ,gG⟩:=bH (ps:=KY) X G N9
 obtain⟨iZ,gX,fR⟩:=bH (ps:=l4) X G N8
 obtain⟨mJ,kO,gC⟩:=bH (ps:=R6) X G N7
 obtain⟨i0,gY,fS⟩:=bH (ps:=["_law_m"]) X G N6
 obtain⟨cZ,cy,aX⟩:=bH (ps:=KW) X G N5
 obtain⟨mK,kP,gD⟩:=bH (ps:=R5) X G N4
 obtain⟨fF,eN,cU⟩:=bH (ps:=R4) X G N3
 obtain⟨ie,gq,eE⟩:=bH (ps:=R3) X G N2
 obtain⟨dY,c7,bu⟩:=bH (ps:=Py) X G N1
 obtain⟨jH,iT,bX⟩:=bH (ps:=R1) X G NZ
 obtain⟨jD,iP,gF⟩:=bH (ps:=R0) X G NY
 obtain⟨ic,gp,b7⟩:=bH (ps:=RZ) X G NX
 obtain⟨gA,fC,dw⟩:=bH (ps:=KU) X G NW
 obtain⟨ia,gm,eB⟩:=bH (ps:=KU) X G NV
 have T5:=uK (st:=qV) NU NT NS
 have KP:Dn K mg "law" qV QK _ _:=⟨T5,Binds.all (ps:=QK) λus hl=>by obtain⟨_,rfl⟩:=GP.LP hl;exact rfl,PySem.W.mg_of X G K8⟩
 have yg:YM K p.aB aY:=by subst hp;exact⟨BU K7,Vc,Vm⟩
 have yf:Mk K p.au bw:=by subst hp;exact⟨V9,UU,UT,V8⟩
 have oO:Mk K p.aK aQ:=by subst hp;exact⟨VU,Ot,Oq,VT⟩
 refine⟨PySem.W.fnOf "law" "law" (gg qV) (d8 qV) (ay qV) .none So Tj RH Tu Qt Tp,λs v=>.of_eq rfl,λbase _ _ bb=>?_⟩
 have T:Txt K mg p base:=by subst hp;exact⟨PySem.W.mg_none_of X G NR,PySem.W.mg_none_of X G NQ,PySem.W.mg_none_of X G NP,PySem.W.mg_none_of X G NO,PySem.W.mg_none_of X G NN,PySem.W.mg_none_of X G NL,PySem.W.mg_none_of X G NJ,PySem.W.mg_none_of X G NI,PySem.W.mg_none_of X G NH,PySem.W.mg_none_of X G NG,PySem.W.mg_none_of X G NF,PySem.W.mg_none_of X G NC,PySem.W.mg_none_of X G NB,PySem.W.mg_none_of X G Nz,PySem.W.mg_none_of X G Ny,PySem.W.mg_none_of X G Nx,PySem.W.mg_none_of X G Nv,PySem.W.mg_of X G u2,PySem.W.mg_of X G u3,PySem.W.mg_of X G u4,λH=>.inr ⟨_,_,_,u5,rfl,rfl,(by show 3<=sizeLine;decide),.cons ⟨_,rfl⟩ (.cons ⟨_,rfl⟩ (.cons ⟨_,rfl⟩ (.nil)))⟩,PySem.W.mg_of X G u6,λH=>.inr ⟨_,_,_,u7,rfl,rfl,(by show 4<=sizeLine;decide),.cons ⟨_,rfl⟩ (.cons ⟨_,rfl⟩ (.cons ⟨_,rfl⟩ (.cons ⟨_,rfl⟩ (.nil))))⟩,PySem.W.mg_of X G u8,λH=>.inr ⟨_,_,_,u9,rfl,rfl,(by show 3<=sizeLine;decide),.cons ⟨_,rfl⟩ (.cons ⟨_,rfl⟩ (.cons ⟨_,rfl⟩ (.nil)))⟩,PySem.W.mg_of X G We,⟨Wd,Wc,Wb,Wa⟩,u17,V7,V6,V5,V4,V3,V2,V1,V0,PySem.W.mg_of X G VZ,⟨VY,VX,VW,VV⟩,VS,VR,VQ,PySem.W.mg_of X G VP,PySem.W.mg_of X G VO,K6 u38,⟨VN,VM,VL⟩,⟨VJ,VI,VH,VG,VF,VE,VD,VC⟩,PySem.W.mg_of X G VB,⟨VA,Vz,Vy⟩,⟨Vx,Vw,Vv,Vu,Vt,Vs,Vr,Vq⟩,⟨Vp,Vo,Vn⟩,⟨_,BU K7⟩,Vl,Vk,⟨Vj,Vi,Vh⟩,Vg,Vf,Ve,u74,Vd,bb,u0,La.ns X G,u1,K9.ns X G⟩
 have jx:=qQ (P:=l.prog) (w:=w) (base:=base) T aJ
 have KD:=GV T lO aJ jx
 have qv:=vH T bh lO KD
 have vU:=uy T cT bh qv
 have BD:=yG (P:=l.prog) (w:=w) (base:=base) T fU
 have x8:=vE T dm aJ jx
 have By:=yy (P:=l.prog) (w:=w) (base:=base) T fQ
 have z7:=Ew (P:=l.prog) (w:=w) (base:=base) T cR
 have HJ:=Eu (P:=l.prog) (w:=w) (base:=base) T jM
 have DJ:=AS T gK jM HJ
 have yY:=xA T eG gK DJ
 have vW:=uA (P:=l.prog) (w:=w) (base:=base) T cV
 have uO:=sW T cB cR z7
 have vq:=AI (P:=l.prog) (w:=w) (base:=base) T cA
 have qu:=vG (P:=l.prog) (w:=w) (base:=base) T bE
 have vt:=AJ (P:=l.prog) (w:=w) (base:=base) T bA
 have yb:=CJ T c5 aJ jx
 have tU:=rR T dI eG yY cV vW cT vU bh qv fU BD dm x8 fQ By cB uO cR z7
 have tV:=rS (P:=l.prog) (w:=w) (base:=base) T dJ
 have vX:=uB T eK dJ yg tV
 have yd:=vJ T fT eK vX
 have BC:=yF T cQ bA vt bE qu
 have DB:=AK (P:=l.prog) (w:=w) (base:=base) T gE
 have HF:=Er (P:=l.prog) (w:=w) (base:=base) T jL
 have uP:=sX (P:=l.prog) (w:=w) (base:=base) T dB
 have BE:=yH (P:=l.prog) (w:=w) (base:=base) T fV
 have Bx:=yx T fP cA vq cQ BC
 have DK:=AU T gM fP Bx
 have Fc:=CN T iL jL HF
 have nT:=rT T bM fT yd dB uP fV BE gM DK gE DB iL Fc
 have rB:=xm (P:=l.prog) (w:=w) (base:=base) T bK
 have tT:=yE (P:=l.prog) (w:=w) (base:=base) T bR
 have rC:=xy (P:=l.prog) (w:=w) (base:=base) T bF
 have x9:=vF (P:=l.prog) (w:=w) (base:=base) T cP
 have yX:=xx T eF bR tT cP x9
 have Fb:=CL T iK bM oO nT bK rB bF rC c5 yb eF yX
 have BF:=yI T fW bR tT
 have yc:=CK T c6 bM oO nT bK rB fW BF bF rC
 have jw:=CI (P:=l.prog) (w:=w) (base:=base) T aA
 have DI:=AR T gJ aA jw
 have DF:=AN T gH aA jw
 have DG:=AO T bW aA jw gJ DI
 have DE:=AM T gG aA jw gH DF bW DG
 have BA:=yz T fR aA jw gG DE dI yf tU
 have HG:=Es T gC aA jw
 have BB:=yD (P:=l.prog) (w:=w) (base:=base) T fS
 have yT:=xq (P:=l.prog) (w:=w) (base:=base) T aX
 have pC:=qX (d:=0) T aX yT
 have Mx:=qX (d:=1) T aX pC
 have HH:=Et T gD bA vt bE qu
 have vV:=uz (P:=l.prog) (w:=w) (base:=base) T cU
 have yW:=xw (P:=l.prog) (w:=w) (base:=base) T eE
 have tS:=yC (P:=l.prog) (w:=w) (base:=base) T bu
 have DH:=AQ (P:=l.prog) (w:=w) (base:=base) T bX
 have DC:=AL T gF gD HH cU vV bX DH cA vq bu tS
 have yV:=xu T b7 c6 yc
 have ya:=vI (P:=l.prog) (w:=w) (base:=base) T dw
 have yU:=xr T eB b7 yV dw ya aX pC
 have Tw:=Pa T KP fR BA gC HG fS BB aA jw gF DC eE yW bu tS aX pC c6 (aI.nv yc) eB yU iK ym (aI.nv Fb) c5 yb
 exact Tw
theorem walk{l:PySem.W.OpenLaw}{q:Program}{loose:List Str}{XP:(Str->Option Value)->Heap->Prop}{YP:World->Heap->Prop}{d:DefRec}{K:Params->PySem.W.Frag}(hn:l.most=some 63)(hdf:d.params.defaults=[])
  (hY:∀(w:World) (h:Heap),YP w h->(K w.params).In h) (hY1:∀(w:World) (h:Heap),YP w h->h.get? (eY (K w.params) "first_begin")=some (PySem.W.tabObj #[])) (hY2:∀(w:World) (h:Heap),YP w h->h.get? (eY (K w.params) "state_behind")=some (PySem.W.tabObj #[])) (Yn:∀w:World,pH (K w.params) "first_begin" =true) (Ym:∀w:World,pH (K w.params) "state_behind" =true)
  (hne:∀w:World,Nat.beq (eY (K w.params) "first_begin") (eY (K w.params) "state_behind")=false) (hG:∀w:World,PySem.W.nsIn (K w.params) mainGlobals "GAP" =some none)
  (F:∀(w:World) (mg:Str->Option Value) (fa:Addr) (h:Heap),(K w.params).In h->h.Ns mainGlobals mg->mg d.name=some (.ref fa) →
   ∃fd:FuncData,(∀(s:Shared) (u:Value),BindsTo s fd ⟨[u],[]⟩ [("_law_script",u)])/\∀base:Heap,(K w.params).In base->base.Ns mainGlobals mg->Nq base mg->aI l.prog w (K w.params) mg base b8 12 fa fd QK (Ak (K w.params) (ue (K w.params)))) :
  PySem.W.WalkO q loose XP YP l.row.toRowW d [] (λf vs=>PySem.call f vs) :=
 L2.Ii (n:=63) (k:=12) (x:= "_law_script") (nms:=["first_begin","state_behind"]) (CX:=λ_=>b8) (sp:=λw=>Ak (K w.params) (ue (K w.params))) hn (by decide) hdf ⟨rfl,by decide,by decide⟩ hY (λw h Y=>Ag (hY1 w h Y) (hY2 w h Y)) (λw=>Ag (Yn w) (Ym w)) hG F
  (λw H a ns hl hT hS=>⟨a,ns,rfl,hS,hl,⟨.inl (hT _ List.mem_cons_self),.inl (hT _ (List.mem_cons_of_mem _ List.mem_cons_self)),Nat.ne_of_beq_eq_false (hne w)⟩,λH' ZU=>⟨rfl,Ag (B3 ZU.a) (B3 ZU.b)⟩⟩) λ_ _ _ _ _ z=>z
end T4
namespace PySem.W.Fast
def tw9003623616952528376:=0
def tw17019839706504857027:=0
def tw11286666110301332179:=0
def tw9497790657730912449:=0
def tw13072602499139009186:=0
def tw11951700647260858105:=0
def tw16114917577990065597:=0
def tw2548249886319626172:=0
def tw10192151841876361485:=0
def tw2408232994980272342:=0
def tw10683307791321265238:=0
def tw5854804369286339933:=0
def tw11558663651298781020:=0
def tw7313332649206081057:=0
def tw4054488740547664696:=0
def tw14035825823386121135:=0
def tw1927260847950480169:=0
def tw4770800009675414588:=0
def tw10184483762520731372:=0
def tw11776694044028070883:=0
def tw13380334570788709530:=0
def tw3902672963645694342:=0
def tw2471987966847573217:=0
def tw6065558676817802835:=0
def tw17880600521432306039:=0
def tw6607463285075631804:=0
def tw17887499950696731345:=0
def tw2182476704671057782:=0
def tw8557461496146082619:=0
def tw8272573816140186132:=0
def tw4148316843014850141:=0
def tw8154120132375287353:=0
def tw10606637613491481892:=0
def tw425805979071011039:=0
def tw10523648574327718824:=0
def tw12572255866587629954:=0
def tw10983244625974362397:=0
def tw9539397500242774451:=0
def tw5299606274420339201:=0
def tw1367314247928114005:=0
def tw7567300959247207164:=0
def tw8287927074307523544:=0
def tw6816144205515580751:=0
def tw14492220770496866675:=0
def tw5075605515123064492:=0
def tw5903051577041274786:=0
def tw1514025640863831812:=0
def tw8454528887144900338:=0
def tw2940921984062965201:=0
def tw17338918323236533644:=0
def tw14536543621024131405:=0
def tw11619864594893754875:=0
def tw15115283271769845047:=0
def tw13123816655636471882:=0
def tw3289102569969802306:=0
def tw2590442147824296205:=0
def tw3456558794585956036:=0
def tw9842494515075902352:=0
def tw16126284622607603641:=0
def tw11727149673875267019:=0
def tw12811018070000864847:=0
def tw5754745936317619640:=0
def tw18024180077230009485:=0
def tw4456156817735375883:=0
def tw14054505739641743766:=0
def tw2418252824692637976:=0
def tw18024358551236589706:=0
def tw7775920679961521413:=0
def tw8343413299881955167:=0
def tw12005093194188566571:=0
def tw12279245700533727864:=0
def tw7445724668300914461:=0
def tw14968043078832591666:=0
def tw10704243359669553882:=0
def tw1913177812448491422:=0
def tw136311043382247698:=0
def tw8660677780162867862:=0
def tw10147063340105402596:=0
def tw10909282035682054327:=0
def tw12937832213972814140:=0
def tw4889195908897898007:=0
def tw10254627640754404730:=0
def tw9174793122359178757:=0
def tw3082367703218371108:=0
def tw11383103420449199286:=0
def tw17475165947921219836:=0
def tw4961152071662496601:=0
def tw16686923361560987597:=0
def tw1354732824129840771:=0
def tw18259235470091314702:=0
def tw1327805654019256565:=0
def tw7174136566525374469:=0
def tw9475470123467259883:=0
def tw14848243655770884286:=0
def tw5126087572123729716:=0
def tw17715036341409061747:=0
def tw3612421339243140801:=0
def tw3936608613304978581:=0
def tw6501956923770569418:=0
def tw9119954985151630118:=0
def tw678084696340931706:=0
def tw16410324180885089208:=0
def tw9857005640579789527:=0
def tw10174592776794879796:=0
def tw10958857429168036045:=0
def tw802716048850449507:=0
def tw11107279298083777272:=0
def tw10735888388070530479:=0
def tw17048128180016010509:=0
def tw16322009923866169749:=0
def tw14439970282331030232:=0
def tw11576520954491135646:=0
def tw12401749382712439173:=0
def tw637971086279974833:=0
def tw6654539948479156015:=0
def tw7199442388776657004:=0
def tw8056199902128633637:=0
def tw761802673309252075:=0
def tw11408150448556553345:=0
def tw17773963076993628078:=0
def tw12359376178542667076:=0
def tw3830586277603505968:=0
def tw3594546858662413160:=0
def tw14556160512837506435:=0
def tw14857713222885134720:=0
def tw4704123340180960542:=0
def tw4731095480968037547:=0
def tw17557159931640729354:=0
def tw4442724141729021210:=0
def tw8762271333800812245:=0
def tw10269094059334630261:=0
def tw2317112751934022765:=0
def tw10524481023658293381:=0
def tw9496098436343783245:=0
def tw15287797570813950820:=0
def tw6358367045302067210:=0
def tw145158235769009573:=0
def tw16284489679574513548:=0
def tw12270245075847835956:=0
def tw11792552638073514012:=0
def tw16919603664516665859:=0
def tw15306963760119669625:=0
def tw5337008742123087356:=0
def tw16281982139167063493:=0
def tw2249155594820184726:=0
def tw4684301503033995244:=0
def tw12477264691328278622:=0
def tw3428934565913361534:=0
def tw17701013243010780450:=0
def tw11111650655324877262:=0
def tw4556426469682260332:=0
def tw6766672593722408161:=0
def tw17327184185138113889:=0
def tw13642376333916941421:=0
def tw12286483316835946932:=0
def tw16647599800690433398:=0
def tw16636603648548905165:=0
def tw5377328339623435216:=0
def tw1975833215440755482:=0
def tw17828476249054838293:=0
def tw541407809819453375:=0
def tw5349297766444967414:=0
def tw9122162674480532792:=0
def tw5720873558273147978:=0
def tw18280337117922858981:=0
def tw17527353732873405592:=0
def tw7296490184004350171:=0
def tw9568996485713877686:=0
def tw17356153095934588756:=0
def tw6701814443791383905:=0
def tw15075321412634086984:=0
def tw10343419969471862245:=0
def tw1792956128294308728:=0
def tw11799522917115674534:=0
def tw12462010634889946639:=0
def tw15013674906619766497:=0
def tw11482950943997267510:=0
def tw7839112782422137372:=0
def tw5700579189261103272:=0
def tw11606274981533936097:=0
def tw15681222055892386559:=0
def tw10333007907287127678:=0
def tw11637206333500040460:=0
def tw3994943390253090813:=0
def tw7383194219547834303:=0
def tw812742040246814807:=0
def tw15134295668376734911:=0
def tw11015287360420750600:=0
def tw8061759572959213295:=0
def tw1741591412848988975:=0
def tw10899079207807146288:=0
def tw258247652866308400:=0
def tw1833538315909983432:=0
def tw12163104517617104891:=0
def tw11183882259285057900:=0
def tw2579716262238776083:=0
def tw8403573852617853627:=0
def tw13704197934665320296:=0
def tw13726511810004730548:=0
def tw16209089967781463456:=0
def tw17674274049651705955:=0
def tw5366464883492108322:=0
def tw7566950389513199686:=0
def tw3505799147056193823:=0
def tw5175228511929351283:=0
def tw13089589219724143085:=0
def tw16246361208390467226:=0
def tw3450310304425134956:=0
def tw14294091715758280888:=0
def tw8045944692544169652:=0
def tw1236060039552692944:=0
def tw5893813753520768890:=0
def tw10453515221456319838:=0
def tw17346396063131592173:=0
def tw9875505874472371370:=0
def tw10157913772281131067:=0
def tw13612772246469508303:=0
def tw11425069730687257480:=0
def tw3779426935947972788:=0
def tw5882948978004492141:=0
def tw14297883475989485435:=0
def tw12399882736253399543:=0
def tw1924161833356559954:=0
def tw14167764096530647018:=0
def tw451278260841843338:=0
def tw14002922264257023357:=0
def tw16386190241038130004:=0
def tw1366268208153285149:=0
def tw14176467699518092749:=0
def tw71483520417736494:=0
def tw9563391975304753312:=0
def tw10074488922262416365:=0
def tw8288919193904955428:=0
def tw9214426981414300840:=0
def tw823610321270337469:=0
def tw12411551994890701949:=0
def tw16750406368466959236:=0
def tw8560454170355079521:=0
def tw994892036393430736:=0
def tw13768911320905646996:=0
def tw12001162327149519590:=0
def tw1148715437285927317:=0
def tw14730102799997449134:=0
def tw2832163987542521067:=0
def tw17641936233266608678:=0
def tw1582014620617208617:=0
def tw6820693306831019963:=0
def tw16746327225347975531:=0
def tw10007807125245139629:=0
def tw17655028458757487451:=0
def tw8003611702252631853:=0
def tw2529777045934182483:=0
def tw16193342178423965885:=0
def tw16629057407652462862:=0
def tw17428513995318145640:=0
def tw2915541040431067290:=0
def tw15892284453302428038:=0
def tw8326888186575883540:=0
def tw16529197889394915444:=0
def tw9314517566956145939:=0
def tw65396692811125087:=0
def tw4138932444081841030:=0
def tw6201558172806098588:=0
def tw14080390987692092590:=0
def tw16344629209769782979:=0
def tw14539029137214457445:=0
def tw8303773262176618556:=0
def tw920022753602704036:=0
def tw5513818138965675762:=0
def tw14602399293260830288:=0
def tw3103847740843969961:=0
def tw2345896470288914401:=0
def tw9380388635724579278:=0
def tw1799008387790465845:=0
def tw17836510229509915438:=0
def tw12498917297095232285:=0
def tw4920568895837774386:=0
def tw1968743953354107826:=0
def tw8693335072609218359:=0
def tw8248756758879232105:=0
def tw13797120430023966286:=0
def tw4483052770789024026:=0
def tw2691002989087789555:=0
def tw17939813125371054387:=0
def tw10908303501272326095:=0
def tw18389956642488532525:=0
def tw10268969483478048753:=0
def tw11047503557520191596:=0
def tw17082961079127732287:=0
def tw1422613100154375516:=0
def tw3135518880913920475:=0
def tw5832459817563770187:=0
def tw10263156004663465694:=0
def tw14233185601440313910:=0
def tw2922881091358980323:=0
def tw8629618252305147794:=0
def tw1572791892983919076:=0
def tw5156398173698088714:=0
def tw6214344944172694241:=0
def tw18400811155368893985:=0
def tw4682338829437882983:=0
def tw10509466444400790058:=0
def tw4511186516633711606:=0
def tw16892952955923379275:=0
def tw15772061443129908436:=0
def tw11292490764947131989:=0
def tw4953413854148168288:=0
def tw5074429441366527916:=0
def tw10996985066009167386:=0
def tw11836526093927769432:=0
def tw14457237201077748530:=0
def tw7796372194886939601:=0
def tw1709837727867272712:=0
def tw17884365731806983042:=0
def tw10105054024439093512:=0
def tw17962840145829637165:=0
def tw8202986486462602904:=0
def tw4024846591896307434:=0
def tw2774476739165515707:=0
def tw6404286550868076894:=0
def tw14713461819370875052:=0
def tw11019069117766482047:=0
def tw928032888017956964:=0
def tw10135947176476853829:=0
def tw5122054616936734848:=0
def tw1536708200617971844:=0
def tw1064089567632567513:=0
def tw7120369187865248145:=0
def tw2984122491598843829:=0
def tw16955509317503384358:=0
def tw10249489691899675648:=0
def tw13981277739308321291:=0
def tw10154264991859702650:=0
def tw9299311117252504836:=0
def tw17152006343133899290:=0
def tw10651619159866750858:=0
def tw16884698688045888806:=0
def tw1420382562731379584:=0
def tw10521339862837659604:=0
def tw3890203731003008701:=0
def tw12478702637135408897:=0
def tw9826517978125757007:=0
def tw5424235389312109855:=0
def tw9512056294192130439:=0
def tw11322182201262381929:=0
def tw2264043386409739719:=0
def tw16870656792810465980:=0
def tw303207362765585852:=0
def tw267581017052786628:=0
def tw13431253897169461575:=0
def tw15770605390112443835:=0
def tw4829525371996185805:=0
def tw9570490589198921546:=0
def tw11607705507130281601:=0
def tw637538191388390916:=0
def tw16774814041156874057:=0
def tw1596924064941826759:=0
def tw6896251757023198673:=0
def tw601091323897011139:=0
def tw5394859535471466176:=0
def tw9896111175402850946:=0
def tw4155726346021320095:=0
def tw14201469053406258376:=0
def tw16841463973840388544:=0
def tw11639929541974647812:=0
def tw1934891383032576062:=0
def tw3624610901988494109:=0
def tw10392234835698468411:=0
def tw4536756107547426201:=0
def tw9599958697130488958:=0
def tw1883844451734688647:=0
def tw14099546100042294987:=0
def tw2925460136892042559:=0
def tw13342663586261406367:=0
def tw2164679289003484161:=0
def tw10385099898027482614:=0
def tw12478470446443231669:=0
def tw10144432949129558453:=0
def tw5041867908448870859:=0
def tw2818374834798848960:=0
def tw4546886540174054664:=0
def tw10452343521641165537:=0
def tw12836820161775330527:=0
def tw10105531361303628054:=0
def tw4574262431776434596:=0
def tw1022173592259582267:=0
def tw10477113859340200812:=0
def tw3872133803421862407:=0
def tw4437869991652449350:=0
def tw11523850427059398887:=0
def tw8775988775900796326:=0
def tw8226919572247036039:=0
def tw18109687915287257045:=0
def tw818680939411251227:=0
def tw11167667068338073112:=0
def tw13120185003110621708:=0
def tw16563644188647008589:=0
def tw8256995963631709397:=0
def tw6991082834657442144:=0
def tw18223419727548284636:=0
def tw12202066318782833059:=0
def tw10545887775655295616:=0
def tw14749218447752966496:=0
def tw11202016073009124522:=0
def tw5116429606464636040:=0
def tw1694354226552084199:=0
def tw6815856090579596779:=0
def tw7815677650020615725:=0
def tw16049490846321851725:=0
def tw9946464246681603346:=0
def tw9451274074275253812:=0
def tw14503321372275230064:=0
def tw10853460380272182267:=0
def tw8975718630072870267:=0
def tw17866521991113650911:=0
def tw5108013669831583575:=0
def tw15776319289191361546:=0
def tw13812807967485616786:=0
def tw7775037968009703224:=0
def tw10342452251340445809:=0
def tw17257973108455730553:=0
def tw6587835363624894250:=0
def tw10002801628228242246:=0
def tw2365375350787958382:=0
def tw12886334131546111209:=0
def tw3411332689587045616:=0
def tw16764909646406418902:=0
def tw1188447239927642533:=0
def tw10789318471534627575:=0
def tw8848736740641120398:=0
def tw16727802757688936777:=0
def tw1244947159453199785:=0
def tw2656930780063249584:=0
end PySem.W.Fast
open PySem PySem.W PyProof.Rows
set_option maxRecDepth 100000 in
set_option maxHeartbeats 0 in
theorem PySem.Challenge.cw_gapweave_k23_counted_holds : PySem.Challenge.rw_gapweave_k23_counted.Holds := by
 w_on;o_law;k_head;(case hw=>w_witness2)
 k_fill
 refine T4.walk (l:=PySem.Challenge.rw_gapweave_k23_counted) rfl rfl (λw h Y=>PySem.W.km_in_of Y) (λw h Y=>PySem.W.km_tabs_of Y _ (List.elem_iff.mp (by kernel_rfl))) (λw h Y=>PySem.W.km_tabs_of Y _ (List.elem_iff.mp (by kernel_rfl))) (λw=>by kernel_rfl) (λw=>by kernel_rfl) (λw=>by kernel_rfl) (λw=>by kernel_rfl) ?F
 case F =>
  intro w mg fa h KX G hmg
  refine' T4.all_mk KX G hmg ?u0 ?u1 ?u2 ?u3 ?u4 ?u5 ?u6 ?u7 ?u8 ?u9 ?We ?Wd ?Wc ?Wb ?Wa ?V9 ?V8 ?u17 ?V7 ?V6 ?V5 ?V4 ?V3 ?V2 ?V1 ?V0 ?VZ ?VY ?VX ?VW ?VV ?VU ?VT ?VS ?VR ?VQ ?VP ?VO ?u38 ?VN ?VM ?VL ?VJ ?VI ?VH ?VG ?VF ?VE ?VD ?VC ?VB ?VA ?Vz ?Vy ?Vx ?Vw ?Vv ?Vu ?Vt ?Vs ?Vr ?Vq ?Vp ?Vo ?Vn ?Vm ?Vl ?Vk ?Vj ?Vi ?Vh ?Vg ?Vf ?Ve ?u74 ?Vd ?YZ ?Vc ?Vb ?Va ?U9 ?u81 ?U8 ?U7 ?U6 ?U5 ?U4 ?U3 ?U1 ?U0 ?UZ ?UY ?UX ?UW ?UU ?UT ?US ?UR ?UQ ?UP ?OI ?OH ?OG ?OF ?OD ?OC ?OB ?OA ?Oz ?Ox ?Ow ?Ov ?Ou ?Ot ?Oq ?Oo ?Om ?Ol ?Oj ?Oi ?La ?K9 ?Oh ?u123 ?Og ?Oe ?Od ?Oc ?Ob ?Oa ?N9 ?N8 ?N7 ?N6 ?N5 ?N4 ?N3 ?N2 ?N1 ?NZ ?NY ?NX ?NW ?NV ?K8 ?NU ?NT ?NS ?K7 ?NR ?NQ ?NP ?NO ?NN ?NL ?NJ ?NI ?NH ?NG ?NF ?NC ?NB ?Nz ?Ny ?Nx ?Nv
  case u2|u3|u4|u5|u6|u7|u8|u9|We|Wd|Wc|Wb|Wa|V9|V8|VZ|VY|VX|VW|VV|VU|VT|VP|VO|VN|VM|VL|VJ|VI|VH|VG|VF|VE|VD|VC|VB|VA|Vz|Vy|Vx|Vw|Vv|Vu|Vt|Vs|Vr|Vq|Vp|Vn|Vm|Vg|Vf|Ve|YZ|Vc|Vb|Va|U9|UU|UT|US|UR|UQ|Ot|Oq|Oo|Om|Ol|K8|NU|NT|NS|NR|NQ|NP|NO|NN|NL|NJ|NI|NH|NG|NF|NC|NB|Nz|Ny|Nx|Nv=>k_is
  case u0|u1|Vo|Vj|Vi|Vh|K7=>kernel_rfl
  case u17|V7|V6|V5|V4|V3|V2|V1|V0|VS|VR|VQ|Vl|Vk=>(show PySem.W.findIn _ _ _=_;k_is)
  case u38=>k_exc
  case u74|Vd=>kit_is
  case u81|U8|U7|U6|U5|U4|U3|U1|U0|UZ|UY|UX|UW|UP|OI|OH|OG|OF|OD|OC|OB|OA|Oz|Ox|Ow|Ov|Ou|Oj|Oi|La|K9|Oh|Og|Oe|Od|Oc|Ob|Oa|N9|N8|N7|N6|N5|N4|N3|N2|N1|NZ|NY|NX|NW|NV=>(refine' T4.kC.mk ?a ?l ?c ?k;(case a=>k_is);(case l=>k_is);(case c=>k_is);(case k=>k_is))
  case u123=>(refine' T4.T7.mk ?a ?l ?c ?k ?e;(case a=>k_is);(case l=>k_is);(case c=>k_is);(case k=>k_is);(case e=>k_is))
