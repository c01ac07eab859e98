import PyProof.Rows.All
import Wide.All
import OpenK.AllK
import Wide.FinOn
import Lean
import PyProof.EqAt
import PyProof.EqKinds
import PyProof.TupleCall
import PyProof.NeKinds
import PyProof.Rows.StrStrike
import PyProof.SumWalkG
import PyProof.StrCalls2
import PyProof.Rows.StrItems
import PyProof.Rows.StrJoin2
import PyProof.Truth
import KE.KIntText
import PyProof.Rows.StrIntSpec
import PySem.Challenge.RW_gapweave_k66_prices_written
set_option Elab.async false
set_option linter.all false
set_option maxRecDepth 100000
namespace TK
open PySem
theorem nT{M:Model}{Γ:Ctx}{p:Pos}{t:Sem PySem.Fin}{fs:List Frame}{s s':Shared}{e:End}(h:Runs M Γ p t fs s e s'):s.toks<=s'.toks:=by
 induction h with
 |fresh _ ih=>exact Nat.le_trans (Nat.le_succ _) ih
 |call _ _ a b=>exact Nat.le_trans a b
 |segRet _ _ a b=>exact Nat.le_trans a b
 |segGen _ _ a b=>exact Nat.le_trans a b
 |resumeFresh _ _ _ _ a b=>exact Nat.le_trans a b
 |resumeSuspended _ _ _ _ a b=>exact Nat.le_trans a b
 |segSuspGen _ _ _ _ a b=>exact Nat.le_trans a b
 |_=>first|exact Nat.le_refl _|assumption
theorem Ab{M:Model}{Γ:Ctx}{p:Pos}{g:Nat}{r:Resume}{s s':Shared}{res:GenResult}(h:Wakes M Γ p g r s res s'):s.toks<=s'.toks:=by
 unfold Wakes at h
 split at h
 ·exact h.elim
 ·split at h
  ·obtain⟨e,s1,a,_,_,rfl⟩:=h;have z:=nT a;exact z
  ·obtain⟨_,rfl⟩:=h;exact Nat.le_refl _
  ·obtain⟨_,rfl⟩:=h;exact Nat.le_refl _
 ·obtain⟨e,s1,a,_,_,rfl⟩:=h;have z:=nT a;exact z
 ·obtain⟨_,rfl⟩:=h;exact Nat.le_refl _
 ·obtain⟨_,rfl⟩:=h;exact Nat.le_refl _
theorem Ld{α:Type}{M:Model}{Γ:Ctx}{n:Nat}(t:Sem α):∀{Q:α->Pos->Shared->Prop} {E:Value->Pos->Shared->Prop} {p:Pos} {s:Shared},n<=s.toks →
  Sem.wp M Γ t (λa p s'=>n<=s'.toks->Q a p s') (λe p s'=>n<=s'.toks->E e p s') p s->Sem.wp M Γ t Q E p s:=by
 induction t with
 |pure a=>intro Q E p s hn h;exact h hn
 |raise e=>intro Q E p s hn h;exact h hn
 |unsupported w=>intro Q E p s hn h;exact h
 |finish e=>intro Q E p s hn h;exact h
 |rule t k ih=>intro Q E p s hn h;exact ih () hn h
 | «at» p' k ih=>intro Q E p s hn h;exact ih () hn h
 |load a q k ih=>intro Q E p s hn h;obtain⟨o,e,h⟩:=h;exact⟨o,e,ih o hn h⟩
 |update a q f k ih=>intro Q E p s hn h;exact⟨h.1,ih () hn h.2⟩
 |alloc o k ih=>intro Q E p s hn h;exact ih _ hn h
 |loadIfAlive a k ih=>intro Q E p s hn h;exact ih _ hn h
 |point l k ih=>intro Q E p s hn h;exact ih () hn h
 |register a k ih=>intro Q E p s hn h;exact h
 |fresh k ih=>intro Q E p s hn h;exact ih _ (Nat.le_succ_of_le hn) h
 |ask k ih=>intro Q E p s hn h;exact ih _ hn h
 |choose src m k ih=>intro Q E p s hn h;exact⟨h.1,ih _ hn h.2⟩
 |os q l k ih=>intro Q E p s hn h;exact ih _ hn h
 |call c hd g l k ih=>intro Q E p s hn h;obtain⟨r,s1,a,h⟩:=h;exact⟨r,s1,a,ih r (Nat.le_trans hn (nT a)) h⟩
 |handled own k ih=>intro Q E p s hn h;exact ih _ hn h
 |newGen c k ih=>intro Q E p s hn h;exact ih _ hn h
 |genState g k ih=>intro Q E p s hn h;obtain⟨st,e,h⟩:=h;exact⟨st,e,ih _ hn h⟩
 |resume g r l k ih=>intro Q E p s hn h;obtain⟨res,s1,a,h⟩:=h;exact⟨res,s1,a,ih _ (Nat.le_trans hn (Ab a)) h⟩
 |yield v g l k ih=>intro Q E p s hn h;exact h
 |stack k ih=>intro Q E p s hn h;exact ih _ hn h
 |fork c k ih=>intro Q E p s hn h;exact h
 |thread k ih=>intro Q E p s hn h;exact ih _ hn h
 |await a tk tm l k ih=>intro Q E p s hn h;exact h
theorem b9{α:Type}{M:Model}{A:Around}{t:Sem α}{Q:α->Shared->Prop}{E:Value->Shared->Prop}{s:Shared}{n:Nat}(hn:n<=s.toks)(h:wpAny M A t (λa s'=>n<=s'.toks->Q a s') (λe s'=>n<=s'.toks->E e s') s):wpAny M A t Q E s :=
 λΓ p hΓ=>Ld t hn (h Γ p hΓ)
theorem uI{M:Model}{A:Around}{c:Code}{R:Result->Shared->Prop}{s:Shared}{n:Nat}(hn:n<=s.toks)(h:codeAny M A c (λr s'=>n<=s'.toks->R r s') s):codeAny M A c R s:=λΓ p hc hb=>by
 obtain⟨r,s1,a,h⟩:=h Γ p hc hb
 exact⟨r,s1,a,h (Nat.le_trans hn (nT a))⟩
end TK
set_option Elab.async false
set_option linter.all false
set_option maxRecDepth 100000
namespace L2
open PySem PySem.Spec PyProof.Rows
abbrev Key:=Sum Int Str
def vU:Key->Value->Bool
 | .inl k,v=>Value.isInt k v
 | .inr x,v=>Value.isStrOf x v
def Q9(w:World):Key->Int
 | .inl k=>hashInt k
 | .inr x=>hashStr w x
theorem eS:∀{k:Key} {v:Value},vU k v=true->(∃i t,k=Sum.inl i/\v=Value.int i t)\/(∃x t,k=Sum.inr x/\v=Value.str x t)
 | .inl i,v,h=>by
  obtain⟨t,e⟩:=Value.isInt_shape (k:=i) (v:=v) h
  exact .inl ⟨i,t,rfl,e⟩
 | .inr x,v,h=>by
  obtain⟨t,e⟩:=Value.isStrOf_shape (x:=x) (v:=v) h
  exact .inr ⟨x,t,rfl,e⟩
theorem Dj(i:Int)(t:Tok):vU (.inl i) (.int i t)=true:=by simp[vU,Value.isInt]
theorem Di(x:Str)(t:Tok):vU (.inr x) (.str x t)=true:=by simp[vU,Value.isStrOf]
theorem JU(a b:Int):decide ((Sum.inl a:Key)=Sum.inl b)=(a==b):=by
 by_cases e:a=b
 ·subst e;simp
 ·have h:¬(Sum.inl a:Key)=Sum.inl b:=λq=>e (Sum.inl.inj q)
  rw[decide_eq_false h]
  exact(beq_eq_false_iff_ne.mpr e).symm
theorem JR(a b:Str):decide ((Sum.inr a:Key)=Sum.inr b)=decide (a=b):=by
 by_cases e:a=b
 ·subst e;simp
 ·have h:¬(Sum.inr a:Key)=Sum.inr b:=λq=>e (Sum.inr.inj q)
  rw[decide_eq_false h,decide_eq_false e]
theorem JT(a:Int)(b:Str):decide ((Sum.inl a:Key)=Sum.inr b)=false:=decide_eq_false (λq=>nomatch q)
theorem JS(a:Str)(b:Int):decide ((Sum.inr a:Key)=Sum.inl b)=false:=decide_eq_false (λq=>nomatch q)
def gT(prog:Program)(w:World):PySem.KeyKind prog w Key where
 is:=vU
 hash:=Q9 w
 inj:=λv a b ha hb=>by
  rcases eS ha with⟨i,t,rfl,rfl⟩|⟨x,t,rfl,rfl⟩
  ·rcases eS hb with⟨j,u,rfl,e⟩|⟨y,u,rfl,e⟩
   ·injection e with e1 _;rw[e1]
   ·exact nomatch e
  ·rcases eS hb with⟨j,u,rfl,e⟩|⟨y,u,rfl,e⟩
   ·exact nomatch e
   ·injection e with e1 _;rw[e1]
 byValue:=λk v h=>by
  rcases eS h with⟨i,t,rfl,rfl⟩|⟨x,t,rfl,rfl⟩<;>rfl
 pyHash:=λhv h=>by
  rcases eS hv with⟨i,t,rfl,rfl⟩|⟨x,t,rfl,rfl⟩
  ·exact wpAny_pyHash_int h
  ·exact wpAny_pyHash_str h
 eqBool:=λhu hv h=>by
  rcases eS hu with⟨i,t,rfl,rfl⟩|⟨x,t,rfl,rfl⟩
  ·rcases eS hv with⟨j,u,rfl,rfl⟩|⟨y,u,rfl,rfl⟩
   ·rw[JU]at h;exact wpAny_eqBool_int h
   ·rw[JT]at h;exact SeqAt.EqAt.int_str i t y u _ _ _ _ h
  ·rcases eS hv with⟨j,u,rfl,rfl⟩|⟨y,u,rfl,rfl⟩
   ·rw[JS]at h;exact SeqAt.EqAt.str_int x t j u _ _ _ _ h
   ·rw[JR]at h;exact wpAny_eqBool_str h
 «strs» :=λk x t v h=>by
  rcases eS h with⟨i,u,rfl,e⟩|⟨y,u,rfl,e⟩
  ·exact nomatch e
  ·injection e with e1 _
   subst e1
   cases v<;>rfl
theorem zd(prog:Program)(w:World)(i:Int)(t:Tok):(gT prog w).is (.inl i) (.int i t)=true:=Dj i t
theorem zb(prog:Program)(w:World)(x:Str)(t:Tok):(gT prog w).is (.inr x) (.str x t)=true:=Di x t
end L2
namespace L2
open PySem PySem.Spec PyProof.Rows
inductive V where
 |gx|bl (b:Bool)|int (i:Int)|str (x:Str)|Cw (b:Array UInt8)|Kv (b:UInt64)|ref (a:Addr)|ty (n:String)
 deriving DecidableEq
def RelV:V->Value->Prop
 | .gx,u=>u=Value.none
 | .bl b,u=>u=Value.bool b
 | .int i,u=>∃t,u=Value.int i t
 | .str x,u=>∃t,u=Value.str x t
 | .Cw b,u=>∃t,u=Value.bytes b t
 | .Kv b,u=>∃t,u=Value.float b t
 | .ref a,u=>u=Value.ref a
 | .ty n,u=>u=Value.type n
abbrev Vals:List V->List Value->Prop:=Paired RelV
theorem Vals.length{xs:List V}{us:List Value}(r:Vals xs us):xs.length=us.length:=Paired.length r
theorem Vals.get:∀{xs:List V} {us:List Value} {i:Nat} {x:V},Vals xs us->xs[i]? =some x->∃u,us[i]? =some u/\RelV x u
 |_,_,_,_,.nil,e=>by simp at e
 |_,_,0,_,.cons r _,e=>by simp at e;subst e;exact⟨_,rfl,r⟩
 |_,_,i+1,x,.cons _ t,e=>by
  obtain⟨u,h1,h2⟩:=Vals.get (i:=i) (x:=x) t (by simpa using e)
  exact⟨u,by simpa using h1,h2⟩
theorem Vals.set{x:V}{u:Value}(r:RelV x u):∀{xs:List V} {us:List Value} (i:Nat),Vals xs us->Vals (xs.set i x) (us.set i u)
 |_,_,_,.nil=>.nil
 |_,_,0,.cons _ t=>.cons r t
 |_,_,i+1,.cons q t=>.cons q (Vals.set r i t)
theorem Vals.append:∀{xs ys:List V} {us ws:List Value},Vals xs us->Vals ys ws->Vals (xs++ys) (us++ws)
 |_,_,_,_,.nil,s=>s
 |_,_,_,_,.cons r t,s=>.cons r (Vals.append t s)
theorem Vals.take:∀{xs:List V} {us:List Value} (n:Nat),Vals xs us->Vals (xs.take n) (us.take n)
 |_,_,0,_=>.nil
 |_,_,_+1,.nil=>.nil
 |_,_,n+1,.cons r t=>.cons r (Vals.take n t)
theorem Vals.drop:∀{xs:List V} {us:List Value} (n:Nat),Vals xs us->Vals (xs.drop n) (us.drop n)
 |_,_,0,r=>r
 |_,_,_+1,.nil=>.nil
 |_,_,n+1,.cons _ t=>Vals.drop n t
theorem Vals.none_of:∀{xs:List V} {us:List Value} {i:Nat},Vals xs us->xs[i]? =none->us[i]? =none:=λ{xs us i} r e=>by
 have h1:=r.length
 have h2:xs.length<=i:=List.getElem?_eq_none_iff.mp e
 exact List.getElem?_eq_none_iff.mpr (by omega)
def pK:Option V->Option Value->Prop
 |some v,some u=>RelV v u
 |none,none=>True
 |_,_=>False
def KV{κ:Type}:List (κ×V)->List (κ×Value)->Prop:=Paired λ(p:κ×V) (q:κ×Value)=>p.1=q.1/\RelV p.2 q.2
def kV:Key->V
 | .inl i=>.int i
 | .inr x=>.str x
inductive HO where
 |lst (xs:List V)
 |tup (xs:List V)
 |dK (kvs:List (Key×V))|dT (kvs:List (List Key×V))
 |set (S:Int->Bool) (n:Nat)
 |ins (C dx:Addr) (fs:List (Str×V))
 |own (x:Addr)
 |xd (fs:List (Str×V))
 |met (f x:Addr)
 |NH (lo hi:Int)
 |A4 (o:Obj) (u:HO)
 |Hy (ps:Array Value)
 |ext (φ:Heap->Prop)
abbrev Hp:=Addr->Option HO
def upd(H:Hp)(a:Addr)(o:HO):Hp:=λb=>if b=a then some o else H b
theorem af{H:Hp}{a:Addr}{o:HO}:upd H a o a=some o:=by unfold upd;rw[if_pos rfl]
theorem az{H:Hp}{a b:Addr}{o:HO}(h:b≠a):upd H a o b=H b:=by unfold upd;rw[if_neg h]
theorem t8{H:Hp}{a b:Addr}{o u:HO}(h:H a=some o)(h':H b=some u)(d:o≠u):a≠b:=by
 intro e;subst e;rw[h]at h';exact d (Option.some.inj h')
theorem bz{H:Hp}{a b:Addr}{o:HO}(h:H a=some o)(h':H b=none):a≠b:=by
 intro e;subst e;rw[h]at h';cases h'
section
variable(P:Program)(w:World)
def b8(H:Hp)(h:Heap)(a:Addr):HO->Prop
 | .lst xs=>xs.length<=sizeLine/\∃(its:List Value) (n:Nat),Vals xs its/\h.get? a=some { cls:=.type "list",data:=.seq its.toArray n }
 | .tup xs=>xs.length<=sizeLine/\∃its:List Value,Vals xs its/\IsTup h a its.toArray
 | .dK kvs=>kvs.length<=sizeLine/\(a==sysModules)=false/\∃vs,KV kvs vs/\h.DictOf (gT P w) a vs
 | .dT kvs=>kvs.length<=sizeLine/\(a==sysModules)=false/\∃xs:List (List Key×Addr×Value),
   Paired (λ(p:List Key×V) (q:List Key×Addr×Value)=>p.1=q.1/\H q.2.1=some (.tup (p.1.map kV))/\RelV p.2 q.2.2) kvs xs ∧
   ∃o es ep,h.get? a=some o/\o.ExactDict/\o.data= .dict es ep/\es.toList=xs.map (entryOfKey (tupleKind (gT P w)))/\(xs.map (·.1)).Nodup
 | .set S n=>h.SetOf (intKind P w) a S n
 | .ins C dx fs=>H dx=some (.own a)/\fs.length<=1000/\dx≠a/\h.get? a=some (PySem.W.instObj C dx) ∧
   ∃mA,h.Ns1 dx mA/\(∀f,pK (fs.lookup f) (mA f))/\PySem.Within mA (fs.map (·.1))
 | .own _=>∃o,h.get? a=some o
 | .xd fs=>∃mA,h.Ns1 a mA/\∀f,pK (fs.lookup f) (mA f)
 | .NH lo hi=>∃t u v,h.get? a=some { cls:=.type "range",data:=.fields #[.int lo t,.int hi u,.int 1 v] }
 | .A4 o u=>h.get? a=some o/\b8 H h a u
 | .Hy ps=>h.get? a=some { cls:=.none,data:=.fields ps }
 | .met f x=>h.get? a=some (PySem.W.methodObj (.ref f) (.ref x))
 | .ext φ=>φ h/\(∃o,h.get? a=some o)/\∀h1 h2:Heap,φ h1->(∀o,h1.get? a=some o->h2.get? a=some o)->φ h2
def lg(H:Hp)(h:Heap):Prop:=∀a o,H a=some o->b8 P w H h a o
end
section
variable{P:Program}{w:World}{H H':Hp}{h h':Heap}{a:Addr}{o:HO}
theorem b8.lt(x:b8 P w H h a o):a<h.objs.size:=by
 cases o with
 |lst xs=>obtain⟨_,_,_,_,e⟩:=x;exact Heap.lt_size e
 |tup xs=>obtain⟨_,_,_,p⟩:=x;exact p.lt
 |dK kvs=>obtain⟨_,_,_,_,o,_,_,e,_⟩:=x;exact Heap.lt_size e
 |dT kvs=>obtain⟨_,_,_,_,o,_,_,e,_⟩:=x;exact Heap.lt_size e
 |set S n=>obtain⟨o,_,_,_,e,_⟩:=x;exact Heap.lt_size e
 |ins C dx fs=>obtain⟨_,_,_,e,_⟩:=x;exact Heap.lt_size e
 |own y=>obtain⟨_,e⟩:=x;exact Heap.lt_size e
 |xd fs=>obtain⟨_,⟨_,_,_,e,_⟩,_⟩:=x;exact Heap.lt_size e
 |NH lo hi=>obtain⟨_,_,_,e⟩:=x;exact Heap.lt_size e
 |A4 ob u=>obtain⟨e,_⟩:=x;exact Heap.lt_size e
 |Hy ps=>exact Heap.lt_size (show h.get? a=some _ from x)
 |met f y=>exact Heap.lt_size (show h.get? a=some _ from x)
 |ext φ=>obtain⟨_,⟨_,e⟩,_⟩:=x;exact Heap.lt_size e
theorem Paired.iW{α β:Type}{F G:α->β->Prop}:∀{l₁:List α} {l₂:List β},Paired F l₁ l₂->(∀a b,F a b->G a b)->Paired G l₁ l₂
 |_,_,.nil,_=>.nil
 |_,_,.cons r t,f=>.cons (f _ _ r) (Paired.iW t f)
theorem b8.stay(x:b8 P w H h a o)(k:∀b u,(b=a\/H b=some (.own a))->h.get? b=some u->h'.get? b=some u)
  (ho:∀b,H b=some (.own a)->H' b=some (.own a)) (ht:∀b xs,H b=some (.tup xs)->H' b=some (.tup xs)):b8 P w H' h' a o:=by
 induction o with
 |lst xs=>obtain⟨z,its,n,r,e⟩:=x;exact⟨z,its,n,r,k _ _ (.inl rfl) e⟩
 |tup xs=>obtain⟨z,its,r,ob,e,c⟩:=x;exact⟨z,its,r,ob,k _ _ (.inl rfl) e,c⟩
 |dK kvs=>obtain⟨z,y,vs,r,ob,es,ep,e,c⟩:=x;exact⟨z,y,vs,r,ob,es,ep,k _ _ (.inl rfl) e,c⟩
 |dT kvs =>
  obtain⟨z,y,xs,r,ob,es,ep,e,c⟩:=x
  exact⟨z,y,xs,Paired.iW r λp q z=>⟨z.1,ht _ _ z.2.1,z.2.2⟩,ob,es,ep,k _ _ (.inl rfl) e,c⟩
 |set S n=>obtain⟨ob,es,ep,t,e,c⟩:=x;exact⟨ob,es,ep,t,k _ _ (.inl rfl) e,c⟩
 |ins C dx fs =>
  obtain⟨d,z,ne,e,mA,⟨od,es,ep,e2,c⟩,r⟩:=x
  exact⟨ho _ d,z,ne,k _ _ (.inl rfl) e,mA,⟨od,es,ep,k _ _ (.inr d) e2,c⟩,r⟩
 |own y=>obtain⟨ob,e⟩:=x;exact⟨ob,k _ _ (.inl rfl) e⟩
 |xd fs=>obtain⟨mA,⟨od,es,ep,e,c⟩,r⟩:=x;exact⟨mA,⟨od,es,ep,k _ _ (.inl rfl) e,c⟩,r⟩
 |NH lo hi=>obtain⟨t,u,v,e⟩:=x;exact⟨t,u,v,k _ _ (.inl rfl) e⟩
 |A4 ob u ih=>obtain⟨e,q⟩:=x;exact⟨k _ _ (.inl rfl) e,ih q⟩
 |Hy ps =>
  have e:h.get? a=some { cls:=.none,data:=.fields ps }:=x
  show h'.get? a=some { cls:=.none,data:=.fields ps }
  exact k a _ (.inl rfl) e
 |met f y =>
  have e:h.get? a=some (PySem.W.methodObj (.ref f) (.ref y)):=x
  show h'.get? a=some (PySem.W.methodObj (.ref f) (.ref y))
  exact k a _ (.inl rfl) e
 |ext φ=>obtain⟨p,⟨o,e⟩,st⟩:=x;exact⟨st _ _ p λo q=>k _ _ (.inl rfl) q,⟨o,k _ _ (.inl rfl) e⟩,st⟩
theorem lg.lt(x:lg P w H h)(e:H a=some o):a<h.objs.size:=(x a o e).lt
theorem lg.fresh(x:lg P w H h)(e:h.objs.size<=a):H a=none:=by
 cases q:H a with
 |none=>rfl
 |some u=>exact absurd (Nat.lt_of_lt_of_le (x.lt q) e) (Nat.lt_irrefl _)
theorem lg.kept(x:lg P w H h)(k:∀b u,h.get? b=some u->h'.get? b=some u):lg P w H h':=λa o e =>
 (x a o e).stay (λb u _ q=>k b u q) (λ_ q=>q) λ_ _ q=>q
theorem lg.laid(x:lg P w H h)(k:∀b u,h.get? b=some u->h'.get? b=some u)(hp:h.objs.size<=a)(new:b8 P w (upd H a o) h' a o):lg P w (upd H a o) h':=λb u e=>by
 have hn:=x.fresh hp
 by_cases hb:b=a
 ·subst hb;rw[af]at e;cases e;exact new
 ·rw[az hb]at e
  exact(x b u e).stay (λc v _ q=>k c v q) (λc q=>by rw[az (bz q hn)];exact q) λc xs q=>by rw[az (bz q hn)];exact q
end
def Rd(H:Hp)(a:Addr)(u:HO):Prop:=H a=some u\/∃o,H a=some (.A4 o u)
theorem Rd.ok{P:Program}{w:World}{H:Hp}{h:Heap}{a:Addr}{u:HO}(r:Rd H a u)(x:lg P w H h):b8 P w H h a u:=by
 rcases r with r|⟨o,r⟩
 ·exact x a u r
 ·obtain⟨_,q⟩:=x a _ r
  exact q
def Nh:Option HO->Prop
 |some (.lst _)=>True
 |some (.dK _)=>True
 |some (.dT _)=>True
 |some (.set _ _)=>True
 |some (.ins _ _ _)=>True
 |some (.ext _)=>True
 |_=>False
section
variable{P:Program}{w:World}{H:Hp}{h h':Heap}{x e:Addr}{o':HO}
theorem lg.write(ok:lg P w H h)(mu:Nh (H x))(he:e=x\/H e=some (.own x))(k:∀b u,b≠e->h.get? b=some u->h'.get? b=some u)(K2:∃u,h'.get? e=some u)
  (new:b8 P w (upd H x o') h' x o'):lg P w (upd H x o') h':=λb u q=>by
 have LZ:∀c y,H c=some (.own y)->c≠x:=λc y r z=>by subst z;rw[r]at mu;exact mu
 have QY:∀c xs,H c=some (.tup xs)->c≠x:=λc xs r z=>by subst z;rw[r]at mu;exact mu
 by_cases hb:b=x
 ·subst hb;rw[af]at q;cases q;exact new
 ·rw[az hb]at q
  by_cases A0:b=e
  ·have q':H b=some (.own x):=by
    rcases he with z|z
    ·exact absurd (A0.trans z) hb
    ·rw[A0];exact z
   rw[q]at q';cases q'
   obtain⟨v,hv⟩:=K2
   exact⟨v,by rw[A0];exact hv⟩
  ·refine(ok b u q).stay (λc v hc r=>k c v ?_ r) (λc r=>by rw[az (LZ c b r)];exact r) λc xs r=>by rw[az (QY c xs r)];exact r
   rcases hc with rfl|hc
   ·exact A0
   ·rintro rfl
    rcases he with z|z
    ·exact LZ c b hc z
    ·rw[hc]at z;cases z;exact hb rfl
end
structure Un(fs ex:List Addr)(H H':Hp)(h h':Heap):Prop where
 keep:∀b o,h.get? b=some o->H b=none->b∉fs->b∉ex->h'.get? b=some o
 slot:∀b o,h.get? b=some o->H b=none->b∈fs->b∉ex->∃sl,h'.get? b=some { o with slots:=sl }
 free:∀b o,h.get? b=some o->H b=none->b∉ex->H' b=none
 there:∀b o,h.get? b=some o->b∉ex->∃o',h'.get? b=some o'
 tups:∀b xs,H b=some (.tup xs)->H' b=some (.tup xs)
 pG:∀b o u,H b=some (.A4 o u)->H' b=some (.A4 o u)
 pO:∀b ps,H b=some (.Hy ps)->∃more,H' b=some (.Hy (ps++more))
section
variable{fs fs' ex ex':List Addr}{H H1 H2:Hp}{h h1 h2 h':Heap}{a x e:Addr}{o:HO}
theorem Un.any(u:Un fs ex H H1 h h1){b:Addr}{ob:Obj}(q:h.get? b=some ob)(n:H b=none)(hx:b∉ex):∃sl,h1.get? b=some { ob with slots:=sl }:=by
 by_cases hb:b∈fs
 ·exact u.slot b ob q n hb hx
 ·exact⟨ob.slots,u.keep b ob q n hb hx⟩
theorem Un.kept(k:∀b u,h.get? b=some u->h'.get? b=some u):Un fs ex H H h h' :=
 ⟨λb ob q _ _ _=>k b ob q,λb ob q _ _ _=>⟨ob.slots,k b ob q⟩,λ_ _ _ n _=>n,λb ob q _=>⟨ob,k b ob q⟩,λ_ _ q=>q,λ_ _ _ q=>q,λ_ ps q=>⟨#[],by rw[q];simp⟩⟩
theorem Un.refl:Un fs ex H H h h:=Un.kept λ_ _ q=>q
theorem Un.laid(k:∀b u,h.get? b=some u->h'.get? b=some u)(hp:h.objs.size<=a)(hn:H a=none):Un fs ex H (upd H a o) h h' where
 keep:=λb u q _ _ _=>k b u q
 slot:=λb u q _ _ _=>⟨u.slots,k b u q⟩
 free:=λb u q n _=>by rw[az (Nat.ne_of_lt (Nat.lt_of_lt_of_le (Heap.lt_size q) hp))];exact n
 there:=λb u q _=>⟨u,k b u q⟩
 tups:=λb xs q=>by rw[az (bz q hn)];exact q
 pG:=λb u xs q=>by rw[az (bz q hn)];exact q
 pO:=λb ps q=>⟨#[],by rw[az (bz q hn),q];simp⟩
theorem Un.write(mu:Nh (H x))(he:e=x\/H e=some (.own x))(k:∀b u,b≠e->h.get? b=some u->h'.get? b=some u)(K2:∃u,h'.get? e=some u):Un fs ex H (upd H x o) h h':=by
 have hx:∀b,H b=none->b≠x:=λb n z=>by subst z;rw[n]at mu;exact mu
 have hb:∀b,H b=none->b≠e:=λb n z=>by
  subst z
  rcases he with r|r
  ·exact hx b n r
  ·rw[n]at r;cases r
 have hm:∀b u,H b=some u->¬Nh (some u)->b≠x:=λb u q nm z=>by subst z;rw[q]at mu;exact nm mu
 refine⟨λb u q n _ _=>k b u (hb b n) q,λb u q n _ _=>⟨u.slots,k b u (hb b n) q⟩,λb u q n _=>by rw[az (hx b n)];exact n,λb u q _=>?_,
  λb xs q=>by rw[az (hm b _ q λz=>z)];exact q,λb u xs q=>by rw[az (hm b _ q λz=>z)];exact q,λb ps q=>⟨#[],by rw[az (hm b _ q λz=>z),q];simp⟩⟩
 by_cases A0:b=e
 ·subst A0;exact K2
 ·exact⟨u,k b u A0 q⟩
end
def Nu(h:Heap)(H:Hp):List Addr:=(List.range h.objs.size).filter λa=>(H a).isSome
def xD(h:Heap)(H:Hp):Heap:=PySem.W.hideAll h (Nu h H)
theorem Dt(h:Heap)(H:Hp):(xD h H).objs.size=h.objs.size:=PySem.W.hideAll_size _ _
theorem Fj{h:Heap}{H:Hp}{b:Addr}{o:Obj}(e:h.get? b=some o)(n:H b=none):(xD h H).get? b=some o :=
 PySem.W.hideAll_get _ e λhm=>by
  have q:(H b).isSome=true:=(List.mem_filter.mp hm).2
  rw[n]at q;simp at q
theorem GH{h:Heap}{H:Hp}{b:Addr}{o:Obj}(e:(xD h H).get? b=some o):h.get? b=some o/\H b=none:=by
 have e':h.get? b=some o:=PySem.W.of_hideAll (Nu h H) e
 refine⟨e',?_⟩
 cases q:H b with
 |none=>rfl
 |some x =>
  have hm:b∈Nu h H:=List.mem_filter.mpr ⟨List.mem_range.mpr (Heap.lt_size e'),by simp[q]⟩
  have z:(xD h H).get? b=none:=PySem.W.hideAll_none (Nu h H) hm
  rw[z]at e;cases e
end L2
namespace L2
open PySem PySem.Spec PyProof.Rows
structure Mod(K:PySem.W.Frag)(mg:Str->Option Value)(base:Heap):Prop where
 E8:K.In base
 glob:base.Ns mainGlobals mg
 blt:∃mb,base.Ns builtinsNs mb/\∀x:Str,x≠ "__name__" ->mb x=bootBuiltins x
 nolimit:base.NoLimit
structure Cx where
 prog:Program
 w:World
 K:PySem.W.Frag
 mg:Str->Option Value
 base:Heap
 A:Around
 N:List Str
 s₀:Shared
 H₀:Hp
 env:Env
 outer:List Env
 stack:List Env
 ex:List Addr
 fn:Str->Bool
 calm:Bool
 pn:List (Addr×Obj)
 xe:Value->Shared->Prop
def frs(l:List Env):List Addr:=l.filterMap (·.frame)
abbrev Cx.fs(X:Cx):List Addr:=frs X.outer
def Oe(sc:Scope)(x:Str):Prop:=sc.names.lookup x=some .local\/sc.names.lookup x=some .cell\/sc.names.lookup x=some .free
def Loc(sc:Scope)(x:Str):Prop:=sc.names.lookup x=some .local\/sc.names.lookup x=some .cell
def Look(env:Env)(h:Heap)(m:Str->Option Value)(x:Str)(u:Value):Prop :=
 (env.kindOf x=some .local/\m x=some u)\/((env.kindOf x=some .cell\/env.kindOf x=some .free)/\∃c,env.cells.lookup x=some c/\h.IsCell c (some u))
def zP(mg:Str->Option Value)(n:Nat):Prop:=∀x v u,mg x=some (.str v u)->u<n/\u≠0
theorem zP.mono{mg:Str->Option Value}{n m:Nat}(h:zP mg n)(l:n<=m):zP mg m:=λx v u e=>⟨Nat.lt_of_lt_of_le (h x v u e).1 l,(h x v u e).2⟩
structure Cx.Ok(X:Cx):Prop where
 mod:Mod X.K X.mg X.base
 kind:X.env.scope.kind= .function
 glob:X.env.globals=mainGlobals
 blt:X.env.builtins=builtinsNs
 above:X.s₀.heap.objs.size<=X.env.locals
 inj:∀x y c,X.env.cells.lookup x=some c->X.env.cells.lookup y=some c->x=y
 has:∀x,(X.env.kindOf x=some .cell\/X.env.kindOf x=some .free)->∃c,X.env.cells.lookup x=some c
 Hl:∀x c,X.fn x=true->X.env.cells.lookup x=some c->X.s₀.heap.objs.size<=c
 hd:X.calm=true->X.A.handled=none
 frames:X.A.frames=some X.stack
 stk:X.stack=X.outer\/(X.stack=X.env::X.outer/\X.env.frame=some X.env.locals)
 N8:∀b∈X.ex,b≠X.env.locals/\∀x c,X.env.cells.lookup x=some c->c≠b
 bs:∀b o,X.base.get? b=some o->X.s₀.heap.get? b=some o/\X.H₀ b=none
 DQ:X.base.objs.size<=X.s₀.heap.objs.size
 AJ:∀b o,X.base.get? b=some o->b∉X.ex
 Dy:∀b∈X.ex,b∉X.fs
 oj:X.s₀.heap.FunFrames X.base X.outer
 F6:∀b∈X.fs,X.H₀ b=none
 tk:zP X.mg X.s₀.toks
structure Inv(X:Cx)(pins:List (Addr×Obj))(σ:List (Option V))(H:Hp)(s:Shared):Prop where
 ok:X.Ok
 os:s.os=X.s₀.os
 bare:AllBare s.gens
 base:Un X.fs X.ex X.H₀ H X.s₀.heap s.heap
 loc:∃m,s.heap.Ns X.env.locals m/\∀(i:Nat) (x:Str) (v:V),X.N[i]? =some x->σ[i]? =some (some v)->Oe X.env.scope x->∃u,RelV v u/\Look X.env s.heap m x u
 cell:∀x c,X.env.cells.lookup x=some c->∃v,s.heap.IsCell c v
 free:H X.env.locals=none
 ja:∀x c,X.env.cells.lookup x=some c->H c=none
 pin:∀p∈X.pn++pins,s.heap.get? p.1=some p.2/\H p.1=none/\p.1≠X.env.locals/\p.1∉X.fs/\∀v,p.2.data≠ .cell v
 hok:lg X.prog X.w H s.heap
 len:σ.length=X.N.length
 up:X.s₀.toks<=s.toks
section
variable{X:Cx}{pins:List (Addr×Obj)}{σ:List (Option V)}{H H':Hp}{s:Shared}{h':Heap}
theorem Cx.Ok.Q3(ok:X.Ok){b:Addr}{o:Obj}(e:X.base.get? b=some o):b∉X.fs:=λhb=>by
 have:=(ok.oj.mem hb).1
 rw[e]at this;cases this
theorem Inv.tk(I:Inv X pins σ H s):zP X.mg s.toks:=I.ok.tk.mono I.up
theorem Inv.bs(I:Inv X pins σ H s):∀b o,X.base.get? b=some o->s.heap.get? b=some o/\H b=none:=λb o e =>
 ⟨I.base.keep b o (I.ok.bs b o e).1 (I.ok.bs b o e).2 (I.ok.Q3 e) (I.ok.AJ b o e),I.base.free b o (I.ok.bs b o e).1 (I.ok.bs b o e).2 (I.ok.AJ b o e)⟩
theorem Inv.bk(I:Inv X pins σ H s):∀b o,X.base.get? b=some o->s.heap.get? b=some o:=λb o e=>(I.bs b o e).1
theorem Inv.mod(I:Inv X pins σ H s):Mod X.K X.mg X.base:=I.ok.mod
theorem Inv.kK(I:Inv X pins σ H s):X.K.In s.heap:=I.ok.mod.E8.keeps I.bk
theorem Inv.lt(I:Inv X pins σ H s):X.env.locals<s.heap.objs.size:=let ⟨_,hn,_⟩:=I.loc;hn.lt
theorem Inv.sz(I:Inv X pins σ H s):X.s₀.heap.objs.size<=s.heap.objs.size:=Nat.le_trans I.ok.above (Nat.le_of_lt I.lt)
theorem Inv.Q2(I:Inv X pins σ H s){a:Addr}(h:s.heap.objs.size<=a):a∉X.fs:=λhb=>by
 obtain⟨_,o,ho,_⟩:=I.ok.oj.mem hb
 exact absurd (Nat.lt_of_lt_of_le (Heap.lt_size ho) (Nat.le_trans I.sz h)) (Nat.lt_irrefl _)
theorem Inv.Ip(I:Inv X pins σ H s):∀x c,X.env.cells.lookup x=some c->c≠X.env.locals:=λx c e z=>by
 obtain⟨v,o,ho,hd⟩:=I.cell x c e
 obtain⟨m,⟨o',es,ep,ho',hd',_⟩,_⟩:=I.loc
 rw[z,ho']at ho;cases ho;rw[hd']at hd;cases hd
theorem Inv.oj(I:Inv X pins σ H s):s.heap.FunFrames X.base X.outer:=by
 have all:∀(l:List Env),(∀b∈frs l,b∈X.fs)->X.s₀.heap.FunFrames X.base l->s.heap.FunFrames X.base l:=by
  intro l
  induction l with
  |nil=>intro _ _;trivial
  |cons env r ih =>
   intro hs hl
   obtain⟨hk,⟨L,o,hf,hn,ho,hd⟩,hr⟩:=hl
   have hL:L∈X.fs:=hs L (by unfold frs;rw[List.filterMap_cons,hf];exact List.mem_cons_self)
   obtain⟨sl,e⟩:=I.base.slot L o ho (I.ok.F6 L hL) hL λz=>I.ok.Dy L z hL
   exact⟨hk,⟨L,_,hf,hn,e,hd⟩,ih (λb hb=>hs b (by unfold frs;rw[List.filterMap_cons,hf];exact List.mem_cons_of_mem _ hb)) hr⟩
 exact all X.outer (λ_ hb=>hb) I.ok.oj
theorem Inv.stack(I:Inv X pins σ H s):s.heap.FunFrames X.base X.stack:=by
 rcases I.ok.stk with e|⟨e,hf⟩
 ·rw[e];exact I.oj
 ·rw[e]
  obtain⟨m,hn,_⟩:=I.loc
  refine .cons (by rw[I.ok.kind];decide) hf hn ?_ I.oj
  exact Heap.get?_none_of_le (Nat.le_trans I.ok.DQ I.ok.above)
theorem Inv.oX(I:Inv X pins σ H s):∀b∈frs X.stack,b∈X.env.locals::X.fs:=λb hb=>by
 rcases I.ok.stk with e|⟨e,hf⟩
 ·rw[e]at hb;exact List.mem_cons_of_mem _ hb
 ·rw[e]at hb
  unfold frs at hb
  rw[List.filterMap_cons,hf]at hb
  exact hb
theorem Inv.sM(I:Inv X pins σ H s):∀b∈frs X.stack,H b=none:=λb hb=>by
 rcases List.mem_cons.mp (I.oX b hb)with e|hb
 ·rw[e];exact I.free
 ·obtain⟨_,o,ho,_⟩:=I.ok.oj.mem hb
  exact I.base.free b o ho (I.ok.F6 b hb) λz=>I.ok.Dy b z hb
theorem Inv.step{g':Array GenState}{t':Nat}{d':Drawn}{ch:List Addr}(I:Inv X pins σ H s)
  (hch:∀b∈ch,(b∈X.ex\/X.s₀.heap.objs.size<=b)/\b≠X.env.locals/\(∀x c,X.env.cells.lookup x=some c->c≠b)/\∀p∈X.pn++pins,p.1≠b)
  (keep:∀b o,b≠X.env.locals->b∉X.fs->b∉ch->s.heap.get? b=some o->H b=none->h'.get? b=some o)
  (slot:∀b o,b≠X.env.locals->b∈X.fs->b∉ch->s.heap.get? b=some o->H b=none->∃sl,h'.get? b=some { o with slots:=sl }) (free:∀b o,b∉ch->s.heap.get? b=some o->H b=none->H' b=none)
  (there:∀b o,b∉ch->s.heap.get? b=some o->∃o',h'.get? b=some o')
  (tups:∀b xs,H b=some (.tup xs)->H' b=some (.tup xs)) (pG:∀b o u,H b=some (.A4 o u)->H' b=some (.A4 o u)) (pO:∀b ps,H b=some (.Hy ps)->∃more,H' b=some (.Hy (ps++more)))
  (ns:∀m,s.heap.Ns X.env.locals m->h'.Ns X.env.locals m) (hok:lg X.prog X.w H' h') (hg:AllBare g') (ht:X.s₀.toks<=t') :
  Inv X pins σ H' { s with heap:=h',gens:=g',drawn:=d',toks:=t' }:=by
 have Tg:∀b o,X.s₀.heap.get? b=some o->b≠X.env.locals:=λb o e=>Nat.ne_of_lt (Nat.lt_of_lt_of_le (Heap.lt_size e) I.ok.above)
 have L4:∀b o,X.s₀.heap.get? b=some o->b∉X.ex->b∉ch:=λb o e hx hb=>by
  rcases(hch b hb).1 with z|z
  ·exact hx z
  ·exact absurd (Nat.lt_of_lt_of_le (Heap.lt_size e) z) (Nat.lt_irrefl _)
 have cellK:∀x c,X.env.cells.lookup x=some c->∀v,s.heap.IsCell c v->h'.IsCell c v:=λx c e v ⟨o,ho,hd⟩=>by
  have HQ:c∉ch:=λz=>(hch c z).2.2.1 x c e rfl
  by_cases hc:c∈X.fs
  ·obtain⟨sl,q⟩:=slot c o (I.Ip x c e) hc HQ ho (I.ja x c e)
   exact⟨_,q,hd⟩
  ·exact⟨o,keep c o (I.Ip x c e) hc HQ ho (I.ja x c e),hd⟩
 refine⟨I.ok,I.os,hg,⟨λb o e n hb hx=>?_,λb o e n hb hx=>?_,λb o e n hx=>?_,λb o e hx=>?_,λb xs e=>tups b xs (I.base.tups b xs e),λb o xs e=>pG b o xs (I.base.pG b o xs e),λb ps e=>?_⟩,?_,λx c e=>?_,?_,λx c e=>?_,λp hp=>?_,hok,I.len,ht⟩
 ·exact keep b o (Tg b o e) hb (L4 b o e hx) (I.base.keep b o e n hb hx) (I.base.free b o e n hx)
 ·obtain⟨sl,e1⟩:=I.base.slot b o e n hb hx
  obtain⟨yo,e2⟩:=slot b _ (Tg b o e) hb (L4 b o e hx) e1 (I.base.free b o e n hx)
  exact⟨yo,e2⟩
 ·obtain⟨o',e1⟩:=I.base.there b o e hx
  exact free b o' (L4 b o e hx) e1 (I.base.free b o e n hx)
 ·obtain⟨o',e1⟩:=I.base.there b o e hx
  exact there b o' (L4 b o e hx) e1
 ·obtain⟨m1,e1⟩:=I.base.pO b ps e
  obtain⟨m2,e2⟩:=pO b _ e1
  exact⟨m1++m2,by rw[e2,Array.append_assoc]⟩
 ·obtain⟨m,hn,hl⟩:=I.loc
  refine⟨m,ns m hn,λi x v e1 e2 e3=>?_⟩
  obtain⟨u,r,l⟩:=hl i x v e1 e2 e3
  refine⟨u,r,?_⟩
  rcases l with l|⟨k,c,e,z⟩
  ·exact .inl l
  ·exact .inr ⟨k,c,e,cellK x c e _ z⟩
 ·obtain⟨v,z⟩:=I.cell x c e
  exact⟨v,cellK x c e v z⟩
 ·obtain⟨m,⟨o,_,_,ho,_⟩,_⟩:=I.loc
  exact free _ o (λz=>(hch _ z).2.1 rfl) ho I.free
 ·obtain⟨v,o,ho,hd⟩:=I.cell x c e
  exact free c o (λz=>(hch c z).2.2.1 x c e rfl) ho (I.ja x c e)
 ·obtain⟨e,n,ne,nf,d⟩:=I.pin p hp
  have HQ:p.1∉ch:=λz=>(hch p.1 z).2.2.2 p hp rfl
  exact⟨keep p.1 p.2 ne nf HQ e n,free p.1 p.2 HQ e n,ne,nf,d⟩
theorem Inv.un{t':Nat}(I:Inv X pins σ H s)(u:Un X.fs [] H H' s.heap h')(hok:lg X.prog X.w H' h')(ht:s.toks<=t':=by first|exact Nat.le_refl _|exact Nat.le_succ _|assumption|omega):Inv X pins σ H' { s with heap:=h',toks:=t' }:=by
 obtain⟨m,⟨o,es,ep,ho,r⟩,_⟩:=id I.loc
 obtain⟨sl,hL⟩:=u.any ho I.free (by simp)
 exact I.step (g':=s.gens) (d':=s.drawn) (ch:=[]) (λ_ z=>nomatch z) (λb o _ hb _ e n=>u.keep b o e n hb (by simp)) (λb o _ hb _ e n=>u.slot b o e n hb (by simp)) (λb o _ e n=>u.free b o e n (by simp)) (λb o _ e=>u.there b o e (by simp)) u.tups u.pG u.pO (λm' hm=>by
  obtain⟨o',es',Oa,ho',r'⟩:=hm
  rw[ho]at ho';cases ho'
  exact⟨_,es',Oa,hL,r'⟩) hok I.bare (Nat.le_trans I.up ht)
theorem Inv.call{g':Array GenState}{t':Nat}{d':Drawn}{ch:List Addr}(I:Inv X pins σ H s)(u:Un (frs X.stack) ch H H' s.heap h')(hok:lg X.prog X.w H' h')(hg:AllBare g')
  (hch:∀b∈ch,(b∈X.ex\/X.s₀.heap.objs.size<=b)/\b≠X.env.locals/\(∀x c,X.env.cells.lookup x=some c->c≠b)/\∀p∈X.pn++pins,p.1≠b) (ht:X.s₀.toks<=t') :
  Inv X pins σ H' { s with heap:=h',gens:=g',drawn:=d',toks:=t' }:=by
 obtain⟨m,⟨o,es,ep,ho,r⟩,_⟩:=id I.loc
 obtain⟨sl,hL⟩:=u.any ho I.free λz=>(hch _ z).2.1 rfl
 exact I.step (ch:=ch) hch (λb o hL hb hc e n=>u.keep b o e n (λz=>(List.mem_cons.mp (I.oX b z)).elim hL hb) hc) (λb o _ _ hc e n=>u.any e n hc) (λb o hc e n=>u.free b o e n hc) (λb o hc e=>u.there b o e hc) u.tups u.pG u.pO (λm' hm=>by
  obtain⟨o',es',Oa,ho',r'⟩:=hm
  rw[ho]at ho';cases ho'
  exact⟨_,es',Oa,hL,r'⟩) hok hg ht
theorem Inv.turned{t':Nat}{it:Addr}(I:Inv X pins σ H s)(k:∀b o,b≠it->s.heap.get? b=some o->h'.get? b=some o)(hn:H it=none)(hL:it≠X.env.locals)
  (h1:it∈X.ex\/X.s₀.heap.objs.size<=it) (h2:∀x c,X.env.cells.lookup x=some c->c≠it) (h3:∀p∈X.pn++pins,p.1≠it) (ht:s.toks<=t':=by first|exact Nat.le_refl _|exact Nat.le_succ _|assumption|omega):Inv X pins σ H { s with heap:=h',toks:=t' }:=by
 have Te:∀b u,H b=some u->b≠it:=λb u e z=>by rw[z,hn]at e;cases e
 refine I.step (g':=s.gens) (d':=s.drawn) (ch:=[it]) (λb hb=>?_) (λb o _ _ hc e _=>k b o (λz=>hc (by simp[z])) e) (λb o _ _ hc e _=>⟨o.slots,k b o (λz=>hc (by simp[z])) e⟩) (λ_ _ _ _ n=>n)
  (λb o hc e=>⟨o,k b o (λz=>hc (by simp[z])) e⟩) (λ_ _ e=>e) (λ_ _ _ e=>e) (λb ps e=>⟨#[],by rw[e];simp⟩) (λm hm=>?_) (λb u e=>?_) I.bare (Nat.le_trans I.up ht)
 ·have e:b=it:=by simpa using hb
  subst e
  exact⟨h1,hL,h2,h3⟩
 ·obtain⟨o,es,ep,ho,r⟩:=hm
  exact⟨o,es,ep,k _ o (Ne.symm hL) ho,r⟩
 ·refine(I.hok b u e).stay (λc v hc q=>k c v ?_ q) (λ_ q=>q) λ_ _ q=>q
  rcases hc with z|z
  ·rw[z];exact Te b u e
  ·exact Te c _ z
theorem Inv.tok(I:Inv X pins σ H s)(t':Nat)(ht:s.toks<=t':=by first|exact Nat.le_refl _|exact Nat.le_succ _|assumption|omega):Inv X pins σ H { s with toks:=t' }:=I.un (h':=s.heap) (t':=t') Un.refl I.hok ht
theorem Inv.kept{t':Nat}(I:Inv X pins σ H s)(k:∀b u,s.heap.get? b=some u->h'.get? b=some u)(ht:s.toks<=t':=by first|exact Nat.le_refl _|exact Nat.le_succ _|assumption|omega):Inv X pins σ H { s with heap:=h',toks:=t' }:=I.un (Un.kept k) (I.hok.kept k) ht
theorem Inv.laid{a:Addr}{o:HO}{t':Nat}(I:Inv X pins σ H s)(k:∀b u,s.heap.get? b=some u->h'.get? b=some u)(hp:s.heap.objs.size<=a)(new:b8 X.prog X.w (upd H a o) h' a o)(ht:s.toks<=t':=by first|exact Nat.le_refl _|exact Nat.le_succ _|assumption|omega):
  Inv X pins σ (upd H a o) { s with heap:=h',toks:=t' }:=I.un (Un.laid k hp (I.hok.fresh hp)) (I.hok.laid k hp new) ht
theorem Inv.write{x e:Addr}{o:HO}{t':Nat}(I:Inv X pins σ H s)(mu:Nh (H x))(he:e=x\/H e=some (.own x))(k:∀b u,b≠e->s.heap.get? b=some u->h'.get? b=some u)(K2:∃u,h'.get? e=some u)
  (new:b8 X.prog X.w (upd H x o) h' x o) (ht:s.toks<=t':=by first|exact Nat.le_refl _|exact Nat.le_succ _|assumption|omega):Inv X pins σ (upd H x o) { s with heap:=h',toks:=t' }:=I.un (Un.write mu he k K2) (I.hok.write mu he k K2 new) ht
theorem Inv.weak{σ':List (Option V)}(I:Inv X pins σ H s)(hl:σ'.length=σ.length)(w:∀(i:Nat) v,σ'[i]? =some (some v)->σ[i]? =some (some v)):Inv X pins σ' H s :=
 ⟨I.ok,I.os,I.bare,I.base,let ⟨m,hn,hl'⟩:=I.loc;⟨m,hn,λi x v e1 e2 e3=>hl' i x v e1 (w i v e2) e3⟩,I.cell,I.free,I.ja,I.pin,I.hok,hl.trans I.len,I.up⟩
theorem Inv.xg{HM:List (Addr×Obj)}(I:Inv X pins σ H s)(h:∀p∈HM,s.heap.get? p.1=some p.2/\H p.1=none/\p.1≠X.env.locals/\p.1∉X.fs/\∀v,p.2.data≠ .cell v):Inv X HM σ H s :=
 ⟨I.ok,I.os,I.bare,I.base,I.loc,I.cell,I.free,I.ja,λp hp=>(List.mem_append.mp hp).elim (λz=>I.pin p (List.mem_append_left _ z)) (h p),I.hok,I.len,I.up⟩
theorem t7{N:List Str}(hN:N.Nodup){i j:Nat}{x:Str}(a:N[i]? =some x)(b:N[j]? =some x):i=j:=by
 obtain⟨h1,e1⟩:=List.getElem?_eq_some_iff.mp a
 obtain⟨h2,e2⟩:=List.getElem?_eq_some_iff.mp b
 exact(List.getElem_inj hN).mp (e1.trans e2.symm)
theorem qB{M:Model}{A:Around}{E:Value->Shared->Prop}{i:Nat}{x:Str}{v:V}{u:Value}{Q:Unit->Shared->Prop}(I:Inv X pins σ H s)(hN:X.N.Nodup)(hi:X.N[i]? =some x)(hx:Loc X.env.scope x)(r:RelV v u)
  (h:∀s',Inv X pins (σ.set i (some v)) H s'->(∃a,Heap.SameBut a s.heap s'.heap/\(a=X.env.locals\/X.env.cells.lookup x=some a))->Q () s') (hf:X.fn x=true\/X.env.scope.names.lookup x=some .local:=by first|exact .inl rfl|exact .inr rfl|assumption):wpAny M A (storeName X.env x u) Q E s:=by
 obtain⟨m,hn,hl⟩:=id I.loc
 have hcls:(X.env.scope.kind== .class||(X.env.scope.kind== .module&&X.env.locals != X.env.globals))=false:=by rw[I.ok.kind];rfl
 have MD:i<σ.length:=by rw[I.len];exact(List.getElem?_eq_some_iff.mp hi).1
 have Ip:=I.Ip
 have tracked:∀{a:Addr} {h':Heap},(∃o,s.heap.get? a=some o/\H a=none)->Heap.SameBut a s.heap h'->lg X.prog X.w H h':=λ{a h'} ha hs b ob e=>by
  obtain⟨_,_,hfree⟩:=ha
  refine(I.hok b ob e).stay (λc w' hc q=>(hs.2 c ?_).trans q) (λ_ q=>q) λ_ _ q=>q
  rintro rfl
  rcases hc with rfl|hc
  ·rw[hfree]at e;cases e
  ·rw[hfree]at hc;cases hc
 rcases hx with hk|hk
 ·refine wpAny_storeName_local hk hn (λh' hn' hs=>?_) hcls
  obtain⟨oL,_,_,VG,_⟩:=id hn
  refine h _ ⟨I.ok,I.os,I.bare,⟨λb o e n hb hx=>?_,λb o e n hb hx=>?_,I.base.free,λb o e hx=>?_,I.base.tups,I.base.pG,I.base.pO⟩,⟨_,hn',λj y v' e1 e2 e3=>?_⟩,λy c e=>?_,I.free,I.ja,λp hp=>?_,tracked ⟨oL,VG,I.free⟩ hs,by simpa using I.len,Nat.le_trans I.up (by first|exact Nat.le_refl _|exact Nat.le_succ _|exact Nat.le_add_right _ _)⟩ ⟨_,hs,.inl rfl⟩
  ·exact(hs.2 b (Nat.ne_of_lt (Nat.lt_of_lt_of_le (Heap.lt_size e) I.ok.above))).trans (I.base.keep b o e n hb hx)
  ·obtain⟨sl,e1⟩:=I.base.slot b o e n hb hx
   exact⟨sl,(hs.2 b (Nat.ne_of_lt (Nat.lt_of_lt_of_le (Heap.lt_size e) I.ok.above))).trans e1⟩
  ·obtain⟨o',e1⟩:=I.base.there b o e hx
   exact⟨o',(hs.2 b (Nat.ne_of_lt (Nat.lt_of_lt_of_le (Heap.lt_size e) I.ok.above))).trans e1⟩
  ·by_cases hj:j=i
   ·subst hj
    rw[hi]at e1;cases e1
    rw[List.getElem?_set_self MD]at e2
    cases e2
    exact⟨u,r,.inl ⟨hk,by simp⟩⟩
   ·rw[List.getElem?_set_ne (Ne.symm hj)]at e2
    obtain⟨u',r',q⟩:=hl j y v' e1 e2 e3
    refine⟨u',r',?_⟩
    rcases q with⟨k,e⟩|⟨k,c,e,z⟩
    ·refine .inl ⟨k,?_⟩
     have:y≠x:=λe=>hj (t7 hN e1 (e▸hi))
     simp[this,e]
    ·exact .inr ⟨k,c,e,z.sameBut hs (Ip y c e)⟩
  ·obtain⟨w',z⟩:=I.cell y c e
   exact⟨w',z.sameBut hs (Ip y c e)⟩
  ·obtain⟨e,n,ne,nf,d⟩:=I.pin p hp
   exact⟨(hs.2 p.1 ne).trans e,n,ne,nf,d⟩
 ·have hfn:X.fn x=true:=by
   rcases hf with z|z
   ·exact z
   ·rw[z]at hk;cases hk
  obtain⟨c,hc⟩:=I.ok.has x (.inl hk)
  obtain⟨w',z⟩:=I.cell x c hc
  refine wpAny_storeName_cell I.ok.kind hk hc z (λh' hc' hs=>?_)
  obtain⟨oc,hoc,RE⟩:=id z
  refine h { s with heap:=h' } ⟨I.ok,I.os,I.bare,⟨λb o e n hb hx=>?_,λb o e n hb hx=>?_,I.base.free,λb o e hx=>?_,I.base.tups,I.base.pG,I.base.pO⟩,⟨m,hn.sameBut hs (Ne.symm (Ip x c hc)),λj y v' e1 e2 e3=>?_⟩,λy c' e=>?_,I.free,I.ja,λp hp=>?_,tracked ⟨oc,hoc,I.ja x c hc⟩ hs,by simpa using I.len,I.up⟩ ⟨c,hs,.inr hc⟩
  ·exact(hs.2 b (Nat.ne_of_lt (Nat.lt_of_lt_of_le (Heap.lt_size e) (I.ok.Hl x c hfn hc)))).trans (I.base.keep b o e n hb hx)
  ·obtain⟨sl,e1⟩:=I.base.slot b o e n hb hx
   exact⟨sl,(hs.2 b (Nat.ne_of_lt (Nat.lt_of_lt_of_le (Heap.lt_size e) (I.ok.Hl x c hfn hc)))).trans e1⟩
  ·obtain⟨o',e1⟩:=I.base.there b o e hx
   exact⟨o',(hs.2 b (Nat.ne_of_lt (Nat.lt_of_lt_of_le (Heap.lt_size e) (I.ok.Hl x c hfn hc)))).trans e1⟩
  ·by_cases hj:j=i
   ·subst hj
    rw[hi]at e1;cases e1
    rw[List.getElem?_set_self MD]at e2
    cases e2
    exact⟨u,r,.inr ⟨.inl hk,c,hc,hc'⟩⟩
   ·rw[List.getElem?_set_ne (Ne.symm hj)]at e2
    obtain⟨u',r',q⟩:=hl j y v' e1 e2 e3
    refine⟨u',r',?_⟩
    rcases q with q|⟨k,c',e,z'⟩
    ·exact .inl q
    ·refine .inr ⟨k,c',e,z'.sameBut hs ?_⟩
     rintro rfl
     exact hj (t7 hN e1 (I.ok.inj _ _ _ e hc▸hi))
  ·by_cases hcc:c'=c
   ·subst hcc;exact⟨_,hc'⟩
   ·obtain⟨w2,z2⟩:=I.cell y c' e
    exact⟨w2,z2.sameBut hs hcc⟩
  ·obtain⟨e,n,ne,nf,d⟩:=I.pin p hp
   refine⟨(hs.2 p.1 ?_).trans e,n,ne,nf,d⟩
   intro q
   rw[q,hoc]at e
   have q':oc=p.2:=Option.some.inj e
   exact d w' (by rw[←q'];exact RE)
theorem mQ{M:Model}{A:Around}{E:Value->Shared->Prop}{i:Nat}{x:Str}{v:V}{u:Value}{Q:Unit->Shared->Prop}(I:Inv X pins σ H s)(hN:X.N.Nodup)(hi:X.N[i]? =some x)(hx:Loc X.env.scope x)(r:RelV v u)
  (h:∀s',Inv X pins (σ.set i (some v)) H s'->Q () s') (hf:X.fn x=true\/X.env.scope.names.lookup x=some .local:=by first|exact .inl rfl|exact .inr rfl|assumption):wpAny M A (storeName X.env x u) Q E s :=
 qB I hN hi hx r (λs' I' _=>h s' I') hf
theorem Inv.Cv{s':Shared}{ch:List Addr}(I:Inv X pins σ H s)(ho:s'.os=s.os)(u:Un (frs X.stack) ch H H' s.heap s'.heap)(hok:lg X.prog X.w H' s'.heap)(hg:AllBare s'.gens)
  (hch:∀b∈ch,(b∈X.ex\/X.s₀.heap.objs.size<=b)/\b≠X.env.locals/\(∀x c,X.env.cells.lookup x=some c->c≠b)/\∀p∈X.pn++pins,p.1≠b) (ht:X.s₀.toks<=s'.toks):Inv X pins σ H' s':=by
 obtain⟨h',g',d',t',o'⟩:=s'
 have e:o'=s.os:=ho
 subst e
 exact I.call (g':=g') (t':=t') (d':=d') u hok hg hch ht
end
abbrev XK:=Value->Option Addr->Hp->Prop
abbrev St:=List (Option V)
abbrev VK:=V->Hp->Prop
abbrev TE:=St->Hp->VK->Prop
abbrev TT:=St->Hp->(Bool->Hp->Prop)->Prop
abbrev TA:=St->Hp->(List V->Hp->Prop)->Prop
structure Ends where
 nx:St->Hp->Prop
 rt:VK
 bk:St->Hp->Prop:=λ_ _=>False
 ct:St->Hp->Prop:=λ_ _=>False
abbrev TS:=Ends->St->Hp->Prop
def EP(X:Cx)(pins:List (Addr×Obj))(σ:St)(Q:VK)(u:Value)(s':Shared):Prop:=∃v H',Inv X pins σ H' s'/\RelV v u/\Q v H'
def TP(X:Cx)(pins:List (Addr×Obj))(σ:St)(Q:Bool->Hp->Prop)(b:Bool)(s':Shared):Prop:=∃H',Inv X pins σ H' s'/\Q b H'
def AP(X:Cx)(pins:List (Addr×Obj))(σ:St)(Q:List V->Hp->Prop)(us:List Value)(s':Shared):Prop:=∃vs H',Inv X pins σ H' s'/\Vals vs us/\Q vs H'
def SP(X:Cx)(pins:List (Addr×Obj))(D:Ends)(f:Flow)(s':Shared):Prop :=
 match f with
 | .next=>∃ σ' H',Inv X pins σ' H' s'/\D.nx σ' H'
 | .brk=>∃ σ' H',Inv X pins σ' H' s'/\D.bk σ' H'
 | .cont=>∃ σ' H',Inv X pins σ' H' s'/\D.ct σ' H'
 | .ret u=>∃v σ' H',Inv X pins σ' H' s'/\RelV v u/\D.rt v H'
def PE(X:Cx)(e:Expr)(t:TE):Prop :=
 ∀(pins:List (Addr×Obj)) (s:Shared) (σ:St) (H:Hp) (Q:VK),Inv X pins σ H s->t σ H Q->wpAny (model X.prog X.w) X.A (eval e X.env) (EP X pins σ Q) X.xe s
def PT(X:Cx)(e:Expr)(t:TT):Prop :=
 ∀(pins:List (Addr×Obj)) (s:Shared) (σ:St) (H:Hp) (Q:Bool->Hp->Prop),Inv X pins σ H s->t σ H Q->wpAny (model X.prog X.w) X.A (isTrue e X.env (eval e X.env)) (TP X pins σ Q) X.xe s
def PW(X:Cx)(e:Expr)(t:TT):Prop :=
 ∀(whole:Sem Value) (pins:List (Addr×Obj)) (s:Shared) (σ:St) (H:Hp) (Q:Bool->Hp->Prop),Inv X pins σ H s->t σ H Q->wpAny (model X.prog X.w) X.A (isTrue e X.env whole) (TP X pins σ Q) X.xe s
theorem PW.pt{X:Cx}{e:Expr}{t:TT}(h:PW X e t):PT X e t:=h _
def PA(X:Cx)(es:List Expr)(t:TA):Prop :=
 ∀(pos:Pos) (pins:List (Addr×Obj)) (s:Shared) (σ:St) (H:Hp) (Q:List V->Hp->Prop),Inv X pins σ H s->t σ H Q->wpAny (model X.prog X.w) X.A (spliced (backTo pos (starEach es X.env))) (AP X pins σ Q) X.xe s
def PS(X:Cx)(st:Stmt)(t:TS):Prop :=
 ∀(pins:List (Addr×Obj)) (s:Shared) (σ:St) (H:Hp) (D:Ends),Inv X pins σ H s->t D σ H->wpAny (model X.prog X.w) X.A (exec st X.env) (SP X pins D) X.xe s
def vt(X:Cx)(st:List Stmt)(t:TS):Prop :=
 ∀(pins:List (Addr×Obj)) (s:Shared) (σ:St) (H:Hp) (D:Ends),Inv X pins σ H s->t D σ H->wpAny (model X.prog X.w) X.A (execs st X.env) (SP X pins D) X.xe s
theorem fK{α:Type}{t:Sem α}{Q Q':α->Shared->Prop}{M:Model}{A:Around}{E:Value->Shared->Prop}{s:Shared}(h:wpAny M A t Q E s)(hQ:∀a s,Q a s->Q' a s):wpAny M A t Q' E s:=wpAny_mono h hQ λ_ _ x=>x
end L2
namespace L2
open PySem PySem.Spec PyProof.Rows
section
variable{X:Cx}
def Gk(i:Nat):TE:=λσ H Q=>∃v,σ[i]? =some (some v)/\Q v H
def tC(v:V):TE:=λ_ H Q=>Q v H
theorem JC {i:Nat} {x:Str} {pos:Pos} (hN:X.N[i]? =some x) (hv:Oe X.env.scope x) (hd:(x==("__debug__" :Str))=false:=by decide) (hcd:(x==("__classdict__" :Str))=false:=by decide):PE X (.Name x pos) (Gk i):=by
 intro pins s σ H Q I h
 obtain⟨v,e,h⟩:=h
 obtain⟨m,hn,hl⟩:=I.loc
 obtain⟨u,r,l⟩:=hl i x v hN e hv
 have fin:EP X pins σ Q u s:=⟨v,H,I,r,h⟩
 rcases l with⟨hk,hm⟩|⟨hk,c,hc,hcell⟩
 ·exact wpAny_Name (wpAny_loadName_local I.ok.kind hk hn hm fin) hd
 ·rcases hk with hk|hk
  ·exact wpAny_Name (wpAny_loadName_cell I.ok.kind hk hc hcell fin) hd
  ·exact wpAny_Name (wpAny_loadName_free I.ok.kind hk hc hcell fin hcd) hd
theorem aj{i j pos}:PE X (.Constant (.int i) j pos) (tC (.int i)):=λ_ _ _ H _ I h=>wpAny_Constant_int ⟨.int i,H,I.tok _,⟨_,rfl⟩,h⟩
theorem pX{b j pos}:PE X (.Constant (.bool b) j pos) (tC (.bl b)):=λ_ _ _ H _ I h=>Constant_bool ⟨.bl b,H,I,rfl,h⟩
theorem xh{j pos}:PE X (.Constant .none j pos) (tC .gx):=λ_ _ _ H _ I h=>Constant_none ⟨.gx,H,I,rfl,h⟩
theorem aI{x j pos}:PE X (.Constant (.str x) j pos) (tC (.str x)):=λ_ _ _ H _ I h=>Calls.Constant_str ⟨.str x,H,I.tok _,⟨_,rfl⟩,h⟩
def Gl(X:Cx)(x:Str):Prop:=X.env.kindOf x=some .globalImplicit
theorem jA{E:Value->Shared->Prop}{pins:List (Addr×Obj)}{s:Shared}{σ:St}{H:Hp}{x:Str}{u:Value}{pos:Pos}{Q:Value->Shared->Prop}(I:Inv X pins σ H s)(hg:Gl X x)(hm:X.mg x=some u)(h:Q u s)
  (hd:(x==("__debug__" :Str))=false:=by decide):wpAny (model X.prog X.w) X.A (eval (.Name x pos) X.env) Q E s :=
 Calls.Name_function_global I.ok.kind hg (Calls.loadGlobal_global (by rw[I.ok.glob];exact I.mod.glob.keeps I.bk) hm h) hd
theorem um{E:Value->Shared->Prop}{pins:List (Addr×Obj)}{s:Shared}{σ:St}{H:Hp}{x:Str}{u:Value}{pos:Pos}{Q:Value->Shared->Prop}(I:Inv X pins σ H s)(hg:Gl X x)(hm:X.mg x=none)(hv:bootBuiltins x=some u)(h:Q u s)
  (hn:x≠ "__name__" :=by decide) (hd:(x==("__debug__" :Str))=false:=by decide):wpAny (model X.prog X.w) X.A (eval (.Name x pos) X.env) Q E s:=by
 obtain⟨mb,h1,h2⟩:=I.mod.blt
 exact Calls.Name_function_global I.ok.kind hg (Calls.loadGlobal_builtin (by rw[I.ok.glob];exact I.mod.glob.keeps I.bk) hm (by rw[I.ok.blt];exact h1.keeps I.bk) ((h2 x hn).trans hv) h) hd
theorem dI {x:Str} {v:V} {u:Value} {pos:Pos} (hg:Gl X x) (hm:X.mg x=some u) (r:RelV v u) (hd:(x==("__debug__" :Str))=false:=by decide):PE X (.Name x pos) (tC v) :=
 λ_ _ _ H _ I h=>jA I hg hm ⟨v,H,I,r,h⟩ hd
theorem c8 {x:Str} {v:V} {u:Value} {pos:Pos} (hg:Gl X x) (hm:X.mg x=none) (hv:bootBuiltins x=some u) (r:RelV v u) (hn:x≠ "__name__" :=by decide) (hd:(x==("__debug__" :Str))=false:=by decide):PE X (.Name x pos) (tC v) :=
 λ_ _ _ H _ I h=>um I hg hm hv ⟨v,H,I,r,h⟩ hn hd
variable{a b:Expr}{ta tb:TE}{pos:Pos}
def tB(t:TE):TT:=λσ H Q=>t σ H λx H1=>∃c,x= .bl c/\Q c H1
theorem cT{e:Expr}{t:TE}(h:PE X e t)(he:∀whole,isTrue e X.env whole=(do let v ←whole;standAt e.pos;holding [v] (truthy v)):=by intro _;rfl):PT X e (tB t):=by
 intro pins s σ H Q I hw
 refine isTrue_plain (fK (h pins s σ H _ I hw) λv s1 ⟨x,H1,I1,r1,q1⟩=>?_) (he _)
 obtain⟨d,rfl,q⟩:=q1
 cases r1
 exact wpAny_truthy_bool ⟨H1,I1,q⟩
variable{tA Nx:TT}{rest:List Expr}
def Qw(t u:TT):TT:=λσ H Q=>t σ H λc H1=>if c=true then u σ H1 Q else Q false H1
def UL(t u:TT):TT:=λσ H Q=>t σ H λc H1=>if c=true then Q true H1 else u σ H1 Q
def Qo(t:TT):TT:=λσ H Q=>t σ H λc H1=>Q (!c) H1
theorem w9(ha:PT X a tA):PW X (.BoolOp .And [a] pos) tA:=by
 intro wh pins s σ H Q I h
 refine isTrue_and (fK (ha pins s σ H Q I h) λc s1 e=>?_)
 cases c with
 |true=>exact isTrue_and_nil e
 |false=>exact e
theorem kW(ha:PT X a tA):PW X (.BoolOp .Or [a] pos) tA:=by
 intro wh pins s σ H Q I h
 refine isTrue_or (fK (ha pins s σ H Q I h) λc s1 e=>?_)
 cases c with
 |false=>exact isTrue_or_nil e
 |true=>exact e
theorem Ay(ha:PT X a tA)(hb:PW X (.BoolOp .And (b::rest) pos) Nx):PW X (.BoolOp .And (a::b::rest) pos) (Qw tA Nx):=by
 intro wh pins s σ H Q I h
 refine isTrue_and (fK (ha pins s σ H _ I h) λc s1 ⟨H1,I1,q1⟩=>?_)
 cases c with
 |true=>exact hb wh pins s1 σ H1 Q I1 q1
 |false=>exact⟨H1,I1,q1⟩
theorem m6(ha:PT X a tA)(hb:PW X (.BoolOp .Or (b::rest) pos) Nx):PW X (.BoolOp .Or (a::b::rest) pos) (UL tA Nx):=by
 intro wh pins s σ H Q I h
 refine isTrue_or (fK (ha pins s σ H _ I h) λc s1 ⟨H1,I1,q1⟩=>?_)
 cases c with
 |true=>exact⟨H1,I1,q1⟩
 |false=>exact hb wh pins s1 σ H1 Q I1 q1
theorem jk(ha:PT X a tA):PT X (.UnaryOp .Not a pos) (Qo tA):=by
 intro pins s σ H Q I h
 exact isTrue_not (ha pins s σ H (λc H1=>Q (!c) H1) I h)
def Lr(ta tb:TE):TE:=λσ H Q=>ta σ H λx H1=>∃c,x= .bl c/\if c=true then tb σ H1 Q else Q (.bl false) H1
def Lk(ta:TE):TE:=λσ H Q=>ta σ H λx H1=>∃c,x= .bl c/\Q (.bl (!c)) H1
theorem qJ{op}{t:TE}(h:PE X a t):PE X (.BoolOp op [a] pos) t:=λpins s σ H Q I hw=>BoolOp_one (h pins s σ H Q I hw)
theorem m7(ha:PE X a ta)(hb:PE X (.BoolOp .And (b::rest) pos) tb):PE X (.BoolOp .And (a::b::rest) pos) (Lr ta tb):=by
 intro pins s σ H Q I h
 refine BoolOp_and (fK (ha pins s σ H _ I h) λv s1 ⟨x,H1,I1,r1,q1⟩=>?_)
 obtain⟨c,rfl,q1⟩:=q1
 cases r1
 refine wpAny_truthy_bool ?_
 cases c with
 |true=>exact hb pins s1 σ H1 Q I1 q1
 |false=>exact⟨.bl false,H1,I1,rfl,q1⟩
theorem EI(ha:PE X a ta):PE X (.UnaryOp .Not a pos) (Lk ta):=by
 intro pins s σ H Q I h
 refine UnaryOp_ (fK (ha pins s σ H _ I h) λv s1 ⟨x,H1,I1,r1,q1⟩=>?_)
 obtain⟨c,rfl,q1⟩:=q1
 cases r1
 exact not_of (wpAny_truthy_bool ⟨.bl (!c),H1,I1,rfl,q1⟩)
def UM(t:TT)(ta tb:TE):TE:=λσ H Q=>t σ H λc H1=>if c=true then ta σ H1 Q else tb σ H1 Q
theorem kg{c:Expr}(hc:PT X c tA)(ha:PE X a ta)(hb:PE X b tb):PE X (.IfExp c a b pos) (UM tA ta tb):=by
 intro pins s σ H Q I h
 refine wpAny_IfExp (fK (hc pins s σ H _ I h) λd s1 ⟨H1,I1,q1⟩=>?_)
 cases d with
 |true=>exact ha pins s1 σ H1 Q I1 q1
 |false=>exact hb pins s1 σ H1 Q I1 q1
end
end L2
namespace L2
open PySem PySem.Spec PyProof.Rows
def bX(K:PySem.W.Frag)(H:Hp)(a:Addr)(xs:List V):Prop :=
 Rd H a (.lst xs) ∨
  ∃(o:Obj) (its:Array Value) (n:Nat),K.lookup a=some o/\o.cls= .type "list" /\o.dict=none/\o.data= .seq its n/\its.size<=sizeLine/\Vals xs its.toList
def cL(K:PySem.W.Frag)(H:Hp)(a:Addr)(xs:List V):Prop :=
 Rd H a (.tup xs) ∨
  ∃(o:Obj) (its:Array Value) (n:Nat),K.lookup a=some o/\o.cls= .type "tuple" /\o.data= .seq its n/\its.size<=sizeLine/\Vals xs its.toList
def SA:Value->Option V
 | .none=>some .gx
 | .bool b=>some (.bl b)
 | .int i _=>some (.int i)
 | .str x _=>some (.str x)
 | .bytes b _=>some (.Cw b)
 | .float b _=>some (.Kv b)
 | .ref a=>some (.ref a)
 | .type n=>some (.ty n)
 |_=>none
theorem RelV.abs{x:V}{u:Value}(r:RelV x u):SA u=some x:=by
 cases x with
 |gx=>cases r;rfl
 |bl _=>cases r;rfl
 |int _=>obtain⟨t,rfl⟩:=r;rfl
 |str _=>obtain⟨t,rfl⟩:=r;rfl
 |Cw _=>obtain⟨t,rfl⟩:=r;rfl
 |Kv _=>obtain⟨t,rfl⟩:=r;rfl
 |ref _=>cases r;rfl
 |ty _=>cases r;rfl
theorem RelV.inj{x y:V}{u:Value}(r:RelV x u)(q:RelV y u):x=y:=Option.some.inj (r.abs.symm.trans q.abs)
theorem Vals.inj:∀{xs ys:List V} {us:List Value},Vals xs us->Vals ys us->xs=ys
 |_,_,_,.nil,.nil=>rfl
 |_,_,_,.cons r t,.cons r' t'=>by rw[r.inj r',Vals.inj t t']
section
variable{X:Cx}{pins:List (Addr×Obj)}{σ:St}{H:Hp}{s:Shared}{a:Addr}{xs ys:List V}
theorem bX.of{K:PySem.W.Frag}(h:H a=some (.lst xs)):bX K H a xs:=.inl (.inl h)
theorem cL.of{K:PySem.W.Frag}(h:H a=some (.tup xs)):cL K H a xs:=.inl (.inl h)
theorem Inv.list(I:Inv X pins σ H s)(h:bX X.K H a xs):∃its:List Value,Vals xs its/\PlainL s.heap a its.toArray/\xs.length<=sizeLine:=by
 rcases h with h|⟨o,its,n,hk,hc,hd,hs,hz,r⟩
 ·obtain⟨z,its,n,r,e⟩:=h.ok I.hok
  exact⟨its,r,⟨_,n,e,rfl,rfl,rfl⟩,z⟩
 ·refine⟨its.toList,r,⟨o,n,I.kK a o hk,hc,hd,by simpa using hs⟩,?_⟩
  have e:=r.length
  simp only[Array.length_toList]at e
  omega
theorem Inv.tuple(I:Inv X pins σ H s)(h:cL X.K H a xs):∃its:List Value,Vals xs its/\IsTup s.heap a its.toArray/\xs.length<=sizeLine:=by
 rcases h with h|⟨o,its,n,hk,hc,hs,hz,r⟩
 ·obtain⟨z,its,r,p⟩:=h.ok I.hok
  exact⟨its,r,p,z⟩
 ·refine⟨its.toList,r,⟨o,I.kK a o hk,hc,n,by simpa using hs⟩,?_⟩
  have e:=r.length
  simp only[Array.length_toList]at e
  omega
theorem Inv.zp(I:Inv X pins σ H s)(h:bX X.K H a xs)(h':bX X.K H a ys):xs=ys:=by
 obtain⟨its,r,⟨o,n,e,_,_,d⟩,_⟩:=I.list h
 obtain⟨its',r',⟨o',n',e',_,_,d'⟩,_⟩:=I.list h'
 rw[e]at e';cases e'
 rw[d]at d'
 injection d' with d1 _
 have:its=its':=by simpa using congrArg Array.toList d1
 subst this
 exact r.inj r'
theorem Inv.vH(I:Inv X pins σ H s)(h:cL X.K H a xs)(h':cL X.K H a ys):xs=ys:=by
 obtain⟨its,r,⟨o,e,_,n,d⟩,_⟩:=I.tuple h
 obtain⟨its',r',⟨o',e',_,n',d'⟩,_⟩:=I.tuple h'
 rw[e]at e';cases e'
 rw[d]at d'
 injection d' with d1 _
 have:its=its':=by simpa using congrArg Array.toList d1
 subst this
 exact r.inj r'
end
abbrev Cx.uT(X:Cx)(E:Value->Shared->Prop):Cx:={ X with xe:=E }
abbrev Cx.LY(X:Cx):Cx:=X.uT λ_ _=>False
theorem Cx.Ok.uT{X:Cx}(ok:X.Ok)(E:Value->Shared->Prop):(X.uT E).Ok :=
 ⟨ok.mod,ok.kind,ok.glob,ok.blt,ok.above,ok.inj,ok.has,ok.Hl,ok.hd,ok.frames,ok.stk,ok.N8,ok.bs,ok.DQ,ok.AJ,ok.Dy,ok.oj,ok.F6,ok.tk⟩
theorem Cx.Ok.mP{X:Cx}{E:Value->Shared->Prop}(ok:(X.uT E).Ok):X.Ok :=
 ⟨ok.mod,ok.kind,ok.glob,ok.blt,ok.above,ok.inj,ok.has,ok.Hl,ok.hd,ok.frames,ok.stk,ok.N8,ok.bs,ok.DQ,ok.AJ,ok.Dy,ok.oj,ok.F6,ok.tk⟩
section
variable{X:Cx}{pins:List (Addr×Obj)}{σ:St}{H:Hp}{s:Shared}{E:Value->Shared->Prop}
theorem Inv.uT(I:Inv X pins σ H s)(E:Value->Shared->Prop):Inv (X.uT E) pins σ H s:=⟨I.ok.uT E,I.os,I.bare,I.base,I.loc,I.cell,I.free,I.ja,I.pin,I.hok,I.len,I.up⟩
theorem Inv.mP(I:Inv (X.uT E) pins σ H s):Inv X pins σ H s:=⟨I.ok.mP,I.os,I.bare,I.base,I.loc,I.cell,I.free,I.ja,I.pin,I.hok,I.len,I.up⟩
theorem SP.mP{D:Ends}{f:Flow}{s':Shared}(h:SP (X.uT E) pins D f s'):SP X pins D f s':=by
 cases f with
 |next=>obtain⟨σ',H',I,q⟩:=h;exact⟨σ',H',I.mP,q⟩
 |brk=>obtain⟨σ',H',I,q⟩:=h;exact⟨σ',H',I.mP,q⟩
 |cont=>obtain⟨σ',H',I,q⟩:=h;exact⟨σ',H',I.mP,q⟩
 |ret u=>obtain⟨v,σ',H',I,r,q⟩:=h;exact⟨v,σ',H',I.mP,r,q⟩
theorem vt.LY{st:List Stmt}{t:TS}(h:vt X.LY st t):vt X st t:=λpins s σ H D I hw =>
 wpAny_mono (h pins s σ H D (I.uT _) hw) (λ_ _ q=>q.mP) λ_ _ z=>False.elim z
end
section
variable{X:Cx}{st:Stmt}{rest:List Stmt}{t u:TS}{e:Expr}{te:TE}{pos:Pos}
def Ll:TS:=λD σ H=>D.nx σ H
def Ql(t u:TS):TS:=λD σ H=>t { D with nx:=u D } σ H
theorem aY:vt X [] Ll:=λ_ _ σ H _ I h=>wpAny_execs_nil ⟨σ,H,I,h⟩
theorem ak(h1:PS X st t)(h2:vt X rest u):vt X (st::rest) (Ql t u):=by
 intro pins s σ H D I h
 refine wpAny_execs_cons (fK (h1 pins s σ H { D with nx:=u D } I h) λf s1 q=>?_)
 cases f with
 |next =>
  obtain⟨σ',H',I',q⟩:=q
  exact h2 pins s1 σ' H' D I' q
 |ret v=>exact q
 |brk=>exact q
 |cont=>exact q
theorem aq(h1:PS X st t):vt X [st] t:=by
 intro pins s σ H D I h
 refine wpAny_execs_cons (fK (h1 pins s σ H D I h) λf s1 q=>?_)
 cases f with
 |next=>exact wpAny_execs_nil q
 |ret v=>exact q
 |brk=>exact q
 |cont=>exact q
theorem Inv.quiet{pins:List (Addr×Obj)}{σ:St}{H:Hp}{s:Shared}(I:Inv X pins σ H s):interactive X.env=false:=by simp[interactive,I.ok.kind]
def Lo(te:TE):TS:=λD σ H=>te σ H λ_ H1=>D.nx σ H1
theorem gR(he:PE X e te)(hs:swapsWith e none pos.line X.env=pure false:=by rfl):PS X (.Expr e pos) (Lo te):=by
 intro pins s σ H D I h
 exact wpAny_Expr_any (fK (he pins s σ H _ I h) λv s1 ⟨x,H1,I1,r1,q1⟩=>⟨σ,H1,I1,q1⟩) I.quiet hs
def Qm(te:TE):TS:=λD σ H=>te σ H D.rt
theorem aR(he:PE X e te):PS X (.Return (some e) pos) (Qm te):=by
 intro pins s σ H D I h
 exact wpAny_Return_some (fK (he pins s σ H _ I h) λv s1 ⟨x,H1,I1,r1,q1⟩=>⟨x,σ,H1,I1,r1,q1⟩)
def Qs(c:TT)(t u:TS):TS:=λD σ H=>c σ H λb H1=>if b=true then t D σ H1 else u D σ H1
theorem ck{c:Expr}{a b:List Stmt}{tc:TT}(hc:PT X c tc)(ha:vt X a t)(hb:vt X b u):PS X (.If c a b pos) (Qs tc t u):=by
 intro pins s σ H D I h
 refine wpAny_If (fK (hc pins s σ H _ I h) λd s1 ⟨H1,I1,q1⟩=>?_)
 cases d with
 |true=>exact ha pins s1 σ H1 D I1 q1
 |false=>exact hb pins s1 σ H1 D I1 q1
def Jj:TS:=λ_ _ _=>False
theorem gf{sts:List Stmt}:vt X sts Jj:=λ_ _ _ _ _ _ h=>h.elim
end
abbrev TG:=V->St->Hp->(St->Hp->Prop)->Prop
abbrev Ir:=List V->St->Hp->(St->Hp->Prop)->Prop
def PG(X:Cx)(target:Expr)(t:TG):Prop :=
 ∀(pins:List (Addr×Obj)) (s:Shared) (σ:St) (H:Hp) (v:V) (u:Value) (Q:St->Hp->Prop),Inv X pins σ H s->RelV v u->t v σ H Q →
  wpAny (model X.prog X.w) X.A (assign target X.env u) (λ_ s'=>∃ σ' H',Inv X pins σ' H' s'/\Q σ' H') X.xe s
def Nd(X:Cx)(ts:List Expr)(t:Ir):Prop :=
 ∀(pins:List (Addr×Obj)) (s:Shared) (σ:St) (H:Hp) (vs:List V) (us:List Value) (Q:St->Hp->Prop),Inv X pins σ H s->Vals vs us->t vs σ H Q →
  wpAny (model X.prog X.w) X.A (assignInOrder ((assignEach ts X.env).map (·.2)) us) (λ_ s'=>∃ σ' H',Inv X pins σ' H' s'/\Q σ' H') X.xe s
abbrev KI:=V->V->V->Hp->(Hp->Prop)->Prop
def Nc(X:Cx)(t:KI):Prop :=
 ∀(pins:List (Addr×Obj)) (s:Shared) (σ:St) (H:Hp) (o i v:V) (ov iv u:Value) (Q:Hp->Prop),Inv X pins σ H s->RelV o ov->RelV i iv->RelV v u->t o i v H Q →
  wpAny (model X.prog X.w) X.A (setItem ov iv u) (λ_ s'=>∃H',Inv X pins σ H' s'/\Q H') X.xe s
section
variable{X:Cx}{pos:Pos}
def Ck(i:Nat):TG:=λv σ H Q=>Q (σ.set i (some v)) H
theorem bD{i:Nat}{x:Str}(hN:X.N.Nodup)(hi:X.N[i]? =some x)(hx:Loc X.env.scope x)(hf:X.fn x=true\/X.env.scope.names.lookup x=some .local:=by first|exact .inl rfl|exact .inr rfl|assumption):PG X (.Name x pos) (Ck i):=by
 intro pins s σ H v u Q I r h
 exact wpAny_assign_Name (mQ I hN hi hx r (λs' I'=>⟨_,H,I',h⟩) hf)
def Sk:Ir:=λvs σ H Q=>vs=[]/\Q σ H
def MQ(t:TG)(u:Ir):Ir:=λvs σ H Q=>∃v r,vs=v::r/\t v σ H λσ' H'=>u r σ' H' Q
theorem pW:Nd X [] Sk:=by
 intro pins s σ H vs us Q I r h
 obtain⟨e,h⟩:=h
 subst e
 cases r
 exact assignInOrder_nil ⟨σ,H,I,h⟩
theorem iw{e:Expr}{es:List Expr}{t:TG}{u:Ir}(h1:PG X e t)(h2:Nd X es u)
  (hs:(assignEach (e::es) X.env).map (·.2)=assign e X.env::(assignEach es X.env).map (·.2):=by rfl):Nd X (e::es) (MQ t u):=by
 intro pins s σ H vs us Q I r h
 obtain⟨v,vr,e1,h⟩:=h
 subst e1
 cases r with
 |cons r rr =>
  rw[hs]
  refine assignInOrder_cons (fK (h1 pins s σ H _ _ _ I r h) λ_ s1 ⟨σ1,H1,I1,q1⟩=>?_)
  exact h2 pins s1 σ1 H1 _ _ Q I1 rr q1
def MP(K:PySem.W.Frag)(n:Nat)(t:Ir):TG:=λv σ H Q=>∃a xs,v= .ref a/\cL K H a xs/\xs.length=n/\t xs σ H Q
theorem tU{es:List Expr}{k:Nat}{t:Ir}{n:Nat}(hc:X.calm=true)(h:Nd X es t)
  (hn:(assignEach es X.env).length=n:=by rfl) (hst:(assignEach es X.env).findIdx? (·.1)=none:=by rfl):PG X (.Tuple es k pos) (MP X.K n t):=by
 intro pins s σ H v u Q I r hw
 obtain⟨a,xs,e1,hq,hl,hw⟩:=hw
 subst e1
 cases r
 obtain⟨its,rv,ht,hz⟩:=I.tuple hq
 refine assign_Tuple_tuple (I.ok.hd hc) ht (by simp[hn,←hl,rv.length]) hst λh' hx=>?_
 have I1:Inv X pins σ H { s with heap:=h' }:=I.kept (t':=s.toks) λb o e=>hx b o (Nat.ne_of_lt (Heap.lt_size e)) e
 exact h pins _ σ H xs _ Q I1 (by simpa using rv) hw
def Sj(to ti:TE)(t:KI):TG:=λv σ H Q=>to σ H λo H1=>ti σ H1 λi H2=>t o i v H2 λH3=>Q σ H3
theorem o7{o i:Expr}{to ti:TE}{t:KI}(ho:PE X o to)(hi:PE X i ti)(hs:Nc X t)
  (ha:∀v,assign (.Subscript o i pos) X.env v=(do
   let ov ←holding [v] (eval o X.env)
   let iv ←holding [v,ov] (eval i X.env)
   standAt pos
   holding [v,ov,iv] (setItem ov iv v)
   release [v,ov,iv] []):=by intro _;rfl):PG X (.Subscript o i pos) (Sj to ti t):=by
 intro pins s σ H v u Q I r h
 rw[ha]
 refine wpAny_bind (wpAny_holding (fK (ho pins s σ H _ I h) λov s1 ⟨x,H1,I1,r1,q1⟩=>?_))
 refine wpAny_bind (wpAny_holding (fK (hi pins s1 σ H1 _ I1 q1) λiv s2 ⟨y,H2,I2,r2,q2⟩=>?_))
 refine wpAny_bind (wpAny_standAt (wpAny_bind (wpAny_holding (fK (hs pins s2 σ H2 x y v ov iv u _ I2 r1 r2 r q2) λ_ s3 ⟨H3,I3,q3⟩=>?_))))
 exact wpAny_release ⟨σ,H3,I3,q3⟩
def Gp(te:TE)(g:TG):TS:=λD σ H=>te σ H λx H1=>g x σ H1 D.nx
theorem lT{tg e:Expr}{te:TE}{g:TG}(he:PE X e te)(hg:PG X tg g)(hs:swapsWithSole [tg] e pos.line X.env=pure false:=by rfl)(hw:swappedStores [tg] e X.env=pure none:=by rfl)
  (h1:(assignEach [tg] X.env).map (·.2)=[assign tg X.env]:=by rfl):PS X (.Assign [tg] e pos) (Gp te g):=by
 intro pins s σ H D I h
 refine wpAny_Assign_stores (fK (he pins s σ H _ I h) λv s1 ⟨x,H1,I1,r1,q1⟩=>?_) hs hw
 rw[h1]
 exact fK (hg pins s1 σ H1 x v _ I1 r1 q1) λ_ s2 q=>q
theorem aE{i:Nat}{x:Str}{e:Expr}{te:TE}{pos':Pos}(hN:X.N.Nodup)(hi:X.N[i]? =some x)(hx:Loc X.env.scope x)(he:PE X e te)(hs:swapsWith e (some (.Name x pos')) pos.line X.env=pure false:=by rfl)(hf:X.fn x=true\/X.env.scope.names.lookup x=some .local:=by first|exact .inl rfl|exact .inr rfl|assumption):
  PS X (.Assign [.Name x pos'] e pos) (Gp te (Ck i)):=by
 intro pins s σ H D I h
 refine wpAny_Assign_Name (fK (he pins s σ H _ I h) λv s1 ⟨y,H1,I1,r1,q1⟩=>?_) hs
 exact mQ I1 hN hi hx r1 (λs2 I2=>⟨_,H1,I2,q1⟩) hf
def Qn(i j:Nat)(ta:TA):TS:=λD σ H=>ta σ H λvs H1=>∃v w,vs=[v,w]/\D.nx ((σ.set i (some v)).set j (some w)) H1
theorem JB{i j:Nat}{x y:Str}{a b:Expr}{ta:TA}{px py pt:Pos}{kt k2 QN}(hc:X.calm=true)(hN:X.N.Nodup)(hi:X.N[i]? =some x)(hj:X.N[j]? =some y)(hij:i≠j)
  (hx:X.env.scope.names.lookup x=some .local) (hy:X.env.scope.names.lookup y=some .local) (ha:PA X [a,b] ta)
  (hw:swappedStores [.Tuple [.Name x px,.Name y py] kt pt] (.Tuple [a,b] k2 QN) X.env=pure (some [x,y]))
  (hs:swapsWithSole [.Tuple [.Name x px,.Name y py] kt pt] (.Tuple [a,b] k2 QN) pos.line X.env=pure false:=by rfl) :
  PS X (.Assign [.Tuple [.Name x px,.Name y py] kt pt] (.Tuple [a,b] k2 QN) pos) (Qn i j ta):=by
 intro pins s σ H D I h
 rw[exec_Assign_arm]
 refine wpAny_bind (wpAny_standAt ?_)
 rw[hs]
 refine wpAny_bind (wpAny_pure ?_)
 rw[if_neg (by decide)]
 refine wpAny_bind (Tuple_ (fK (ha _ pins s σ H _ I h) λus s1 ⟨vs,H1,I1,r1,q1⟩=>?_))
 obtain⟨v,w,e1,q1⟩:=q1
 subst e1
 obtain⟨u1,u2,rfl,rv,rw'⟩:∃u1 u2,us=[u1,u2]/\RelV v u1/\RelV w u2:=by
  cases r1 with
  |cons p q =>
   cases q with
   |cons p' q' =>
    cases q'
    exact⟨_,_,rfl,p,p'⟩
 refine wpAny_newObj_type ?_ (by show 2<=sizeLine;decide)
 have I2:Inv X pins σ H1 { s1 with heap:=s1.heap.push { cls:=.type "tuple",data:=.seq [u1,u2].toArray } }:=I1.kept (t':=s1.toks) λb o e=>Heap.get?_push_of_some _ e
 rw[hw]
 refine wpAny_bind (wpAny_pure ?_)
 show wpAny (model X.prog X.w) X.A (do rule "assign.swapped-stores";let items ←unpackItems (.ref s1.heap.objs.size) 2 none;assignInOrder [λv=>bindName X.env y v,λv=>bindName X.env x v] items.reverse;pure Flow.next) _ _ _
 refine wpAny_bind (wpAny_rule (wpAny_bind (unpackItems_tuple (items:= #[u1,u2]) (I.ok.hd hc) (IsTup.new s1.heap _) λh' hx'=>?_)))
 have I3:=I2.kept (h':=h') (t':=s1.toks) λb o e=>hx' b o (Nat.ne_of_lt (Heap.lt_size e)) e
 show wpAny _ _ (assignInOrder [λv=>bindName X.env y v,λv=>bindName X.env x v] [u2,u1] >>= λ_=>pure Flow.next) _ _ _
 refine wpAny_bind (assignInOrder_cons (wpAny_bindName (mQ I3 hN hj (.inl hy) rw' (λs2 I4=>?_) (.inr hy))))
 refine assignInOrder_cons (wpAny_bindName (mQ I4 hN hi (.inl hx) rv (λs3 I5=>assignInOrder_nil (wpAny_pure ?_)) (.inr hx)))
 rw[List.set_comm _ _ (Ne.symm hij)]at I5
 exact⟨_,H1,I5,q1⟩
end
section
variable{X:Cx}{pos:Pos}
def Jg(c:TT)(tb:TS):TS:=λD σ H=>∃W:Nat->St->Hp->Prop,(∃m,W m σ H)/\∀m σ H,W m σ H →
 c σ H λb H1=>if b=true then ∃N:St->Hp->Prop,(∀ σ' H',N σ' H'->∃m',m'<m/\W m' σ' H')/\tb { D with nx:=N,ct:=N,bk:=D.nx } σ H1 else D.nx σ H1
theorem tP{c:Expr}{body:List Stmt}{tc:TT}{tb:TS}(hp:PassesOwn (model X.prog X.w) X.A X.env X.xe)(hc:PT X c tc)(hb:vt X body tb):PS X (.While c body [] pos) (Jg tc tb):=by
 intro pins s σ H D I h
 obtain⟨W,⟨m0,w0⟩,turn⟩:=h
 refine wpAny_While (codeAny_whileLoop (λn s'=>∃ σ' H',Inv X pins σ' H' s'/\W n σ' H') ?_ m0 ⟨σ,H,I,w0⟩)
 rintro n s1 ⟨σ1,H1,I1,w1⟩
 refine wpAny_passesOwn hp (fK (hc pins s1 σ1 H1 _ I1 (turn n σ1 H1 w1)) λb s2 ⟨H2,I2,q2⟩=>?_)
 cases b with
 |true =>
  obtain⟨N,hN,q2⟩:=q2
  rw[if_pos rfl]
  refine wpAny_passesOwn hp (fK (hb pins s2 σ1 H2 _ I2 q2) λf s3 q3=>?_)
  cases f with
  |next =>
   obtain⟨σ3,H3,I3,n3⟩:=q3
   obtain⟨m',hm,w3⟩:=hN σ3 H3 n3
   exact⟨m',hm,σ3,H3,I3,w3⟩
  |cont =>
   obtain⟨σ3,H3,I3,n3⟩:=q3
   obtain⟨m',hm,w3⟩:=hN σ3 H3 n3
   exact⟨m',hm,σ3,H3,I3,w3⟩
  |brk=>exact q3
  |ret v=>exact q3
 |false =>
  rw[if_neg Bool.false_ne_true]
  exact wpAny_execs_nil ⟨σ1,H2,I2,q2⟩
end
structure It where
 go:Nat->Hp->Prop
 Bl:Nat->Hp->V->Hp->Prop
 stop:Nat->Hp->Prop
def nM(X:Cx)(pins:List (Addr×Obj))(H:Hp)(b:Addr):Prop :=
 H b=none/\b≠X.env.locals/\b∉X.fs/\(b∈X.ex\/X.s₀.heap.objs.size<=b)/\(∀x c,X.env.cells.lookup x=some c->c≠b)/\∀p∈X.pn++pins,p.1≠b
theorem Inv.zG{X:Cx}{pins:List (Addr×Obj)}{σ:St}{H H':Hp}{s:Shared}{b:Addr}(I:Inv X pins σ H s)(hb:s.heap.objs.size<=b)(hn:H' b=none):nM X pins H' b:=by
 refine⟨hn,Nat.ne_of_gt (Nat.lt_of_lt_of_le I.lt hb),I.Q2 hb,.inr (Nat.le_trans I.sz hb),λx c e z=>?_,λp hp z=>?_⟩
 ·obtain⟨v,q⟩:=I.cell x c e
  exact absurd (Nat.lt_of_lt_of_le q.lt (by rw[z];exact hb)) (Nat.lt_irrefl _)
 ·exact absurd (Nat.lt_of_lt_of_le (Heap.lt_size (I.pin p hp).1) (by rw[z];exact hb)) (Nat.lt_irrefl _)
structure Turn(P:Program)(w:World)(K:PySem.W.Frag)(tg:Expr)(J:It)(fp:List Addr)(it:Addr)(tn:Nat->Heap->Prop):Prop where
 mem:it∈fp
 obj:∀i h,tn i h->∀b∈fp,∃o,h.get? b=some o/\∀v,o.data≠ .cell v
 keep:∀i h h',tn i h->(∀b∈fp,∀o,h.get? b=some o->h'.get? b=some o)->tn i h'
 item:∀(X:Cx),X.prog=P->X.w=w->X.K=K->X.calm=true->∀(i:Nat) (pins:List (Addr×Obj)) (s:Shared) (σ:St) (H:Hp) (E:Value->Shared->Prop),Inv X pins σ H s->(∀b∈fp,nM X pins H b)->tn i s.heap->J.go i H →
  wpAny (model P w) X.A (pyNext (.ref it)) (λr s1=>∃u,r=some u ∧
   wpAny (model P w) X.A (letOwnedTupleGo tg (.ref it) u) (λ_ s2=>∃x H',Inv X pins σ H' s2/\RelV x u/\J.Bl i H x H'/\tn (i+1) s2.heap/\∀b∈fp,H' b=none) E s1) E s
 done:∀(X:Cx),X.prog=P->X.w=w->X.K=K->X.calm=true->∀(i:Nat) (pins:List (Addr×Obj)) (s:Shared) (σ:St) (H:Hp) (E:Value->Shared->Prop),Inv X pins σ H s->(∀b∈fp,nM X pins H b)->tn i s.heap->J.stop i H →
  wpAny (model P w) X.A (pyNext (.ref it)) (λr s1=>r=none/\Inv X pins σ H s1) E s
 self:∀(A:Around) (i:Nat) (s:Shared) (Q:Value->Shared->Prop) (E:Value->Shared->Prop),tn i s.heap->Q (.ref it) s->wpAny (model P w) A (pyIter (.ref it)) Q E s
abbrev TI:=St->Hp->(It->Hp->Prop)->Prop
def Uw(X:Cx)(pins:List (Addr×Obj))(σ:St)(tg:Expr)(R:It->Hp->Prop)(itv:Value)(s2:Shared):Prop :=
 ∃(it:Addr) (fp:List Addr) (tn:Nat->Heap->Prop) (J:It) (H':Hp),itv= .ref it/\Inv X pins σ H' s2/\Turn X.prog X.w X.K tg J fp it tn/\tn 0 s2.heap/\(∀b∈fp,nM X pins H' b)/\R J H'
def PI(X:Cx)(tg iter:Expr)(wi:TI):Prop :=
 ∀(pins:List (Addr×Obj)) (s:Shared) (σ:St) (H:Hp) (R:It->Hp->Prop),Inv X pins σ H s->wi σ H R →
  wpAny (model X.prog X.w) X.A (eval iter X.env) (λv s1=>wpAny (model X.prog X.w) X.A (pyIter v) (Uw X pins σ tg R) X.xe s1) X.xe s
theorem Cj{M:Model}{A:Around}{E:Value->Shared->Prop}{s:Shared}{tg:Expr}{it:Addr}{u:Value}{o:Obj}{n:String}{vs:Array Value}{Q:Unit->Shared->Prop}(ho:s.heap.get? it=some o)(hc:o.cls= .type n)(hd:o.data= .fields vs)
  (hn:["enumerate","zip","dict_itemiterator","dict_reverseitemiterator","odict_iterator","itertools.zip_longest","itertools.pairwise"].contains n=false) (hQ:Q () s):wpAny M A (letOwnedTupleGo tg (.ref it) u) Q E s:=by
 unfold letOwnedTupleGo
 cases tg<;>first
  |exact wpAny_pure hQ
  |(cases u<;>first
    |exact wpAny_pure hQ
    |(refine wpAny_bind (wpAny_load ho ?_)
      rw[hc,hd]
      show wpAny M A (if(["enumerate","zip","dict_itemiterator","dict_reverseitemiterator","odict_iterator","itertools.zip_longest","itertools.pairwise"].contains n&&vs[0]? ==some (rawInt _))=true then _ else _) Q E s
      rw[if_neg (by intro h;rw[hn,Bool.false_and]at h;cases h)]
      exact wpAny_pure hQ))
def Nm(K:PySem.W.Frag)(a:Addr):It :=
 ⟨λi H=>∃xs x,bX K H a xs/\xs[i]? =some x,λi H x H'=>H'=H/\∀xs,bX K H a xs->xs[i]? =some x,λi H=>∃xs,bX K H a xs/\xs.length<=i⟩
def Wx(K:PySem.W.Frag)(a:Addr):It :=
 ⟨λi H=>∃xs x,cL K H a xs/\xs[i]? =some x,λi H x H'=>H'=H/\∀xs,cL K H a xs->xs[i]? =some x,λi H=>∃xs,cL K H a xs/\xs.length<=i⟩
def La(lo:Int)(n:Nat):It:=⟨λi _=>i<n,λi H x H'=>H'=H/\x= .int (lo+i),λi _=>n<=i⟩
theorem vG{P:Program}{w:World}{K:PySem.W.Frag}{tg:Expr}(a it:Addr):Turn P w K tg (Nm K a) [it] it (λi h=>h.IsListIter it a i) where
 mem:=by simp
 obj:=λi h st b hb=>by
  have e:b=it:=by simpa using hb
  subst e
  obtain⟨o,e,c,d⟩:=st
  exact⟨o,e,λv z=>by rw[d]at z;cases z⟩
 keep:=λi h h' st k=>st.at λo e=>k it (by simp) o e
 item:=by
  intro X hP hw hK hc i pins s σ H E I hf st hg
  subst hP hw hK
  obtain⟨xs,x,hq,hx⟩:=hg
  obtain⟨its,rv,p,hz⟩:=I.list hq
  obtain⟨u,hu,ru⟩:=rv.get hx
  obtain⟨f0,f1,f2,f3,f4,f5⟩:=hf it (by simp)
  refine wpAny_pyNext_list_item st p.isList (x:=u) (by simpa using hu) λh' st' sb=>?_
  have I1:Inv X pins σ H { s with heap:=h' }:=I.turned (t':=s.toks) (λb o hb e=>(sb.2 b hb).trans e) f0 f1 f3 f4 f5
  obtain⟨o,e,c,d⟩:=id st'
  exact⟨u,rfl,Cj (s:={ s with heap:=h' }) e c d (by decide) ⟨x,H,I1,ru,⟨rfl,λys hy=>by rw[I.zp hy hq];exact hx⟩,st',λb hb=>(hf b hb).1⟩⟩
 done:=by
  intro X hP hw hK hc i pins s σ H E I hf st hg
  subst hP hw hK
  obtain⟨xs,hq,hx⟩:=hg
  obtain⟨its,rv,p,hz⟩:=I.list hq
  obtain⟨f0,f1,f2,f3,f4,f5⟩:=hf it (by simp)
  have hl:=rv.length
  exact wpAny_pyNext_list_end (I.ok.hd hc) st p.isList (by simp;omega) λh' eb=>⟨rfl,I.turned (t':=s.toks) (λb o hb e=>eb b o hb e) f0 f1 f3 f4 f5⟩
 self:=λ_ _ _ _ _ st h=>wpAny_pyIter_listiter st h
theorem Ae{P:Program}{w:World}{K:PySem.W.Frag}{tg:Expr}(a it:Addr):Turn P w K tg (Wx K a) [it] it (λi h=>h.IsTupleIter it a i) where
 mem:=by simp
 obj:=λi h st b hb=>by
  have e:b=it:=by simpa using hb
  subst e
  obtain⟨o,e,c,d⟩:=st
  exact⟨o,e,λv z=>by rw[d]at z;cases z⟩
 keep:=λi h h' st k=>st.at λo e=>k it (by simp) o e
 item:=by
  intro X hP hw hK hc i pins s σ H E I hf st hg
  subst hP hw hK
  obtain⟨xs,x,hq,hx⟩:=hg
  obtain⟨its,rv,p,hz⟩:=I.tuple hq
  obtain⟨u,hu,ru⟩:=rv.get hx
  obtain⟨f0,f1,f2,f3,f4,f5⟩:=hf it (by simp)
  refine wpAny_pyNext_tuple_item st (show s.heap.IsTuple a its.toArray from p) (x:=u) (by simpa using hu) λh' st' sb=>?_
  have I1:Inv X pins σ H { s with heap:=h' }:=I.turned (t':=s.toks) (λb o hb e=>(sb.2 b hb).trans e) f0 f1 f3 f4 f5
  obtain⟨o,e,c,d⟩:=id st'
  exact⟨u,rfl,Cj (s:={ s with heap:=h' }) e c d (by decide) ⟨x,H,I1,ru,⟨rfl,λys hy=>by rw[I.vH hy hq];exact hx⟩,st',λb hb=>(hf b hb).1⟩⟩
 done:=by
  intro X hP hw hK hc i pins s σ H E I hf st hg
  subst hP hw hK
  obtain⟨xs,hq,hx⟩:=hg
  obtain⟨its,rv,p,hz⟩:=I.tuple hq
  obtain⟨f0,f1,f2,f3,f4,f5⟩:=hf it (by simp)
  have hl:=rv.length
  exact wpAny_pyNext_tuple_end (I.ok.hd hc) st (show s.heap.IsTuple a its.toArray from p) (by simp;omega) λh' eb=>⟨rfl,I.turned (t':=s.toks) (λb o hb e=>eb b o hb e) f0 f1 f3 f4 f5⟩
 self:=λ_ _ _ _ _ st h=>wpAny_pyIter_tupleiter st h
theorem Af{P:Program}{w:World}{K:PySem.W.Frag}{tg:Expr}(it:Addr)(lo:Int)(n:Nat):Turn P w K tg (La lo n) [it] it (λi h=>IsRangeIter h it (lo+(i:Nat)*1) ((n:Int)-(i:Nat)) 1) where
 mem:=by simp
 obj:=λi h st b hb=>by
  have e:b=it:=by simpa using hb
  subst e
  exact⟨_,st,λv z=>by
   have z':Data.fields _=Data.cell v:=z
   cases z'⟩
 keep:=λi h h' st k=>k it (by simp) _ st
 item:=by
  intro X hP hw hK hc i pins s σ H E I hf st hg
  subst hP hw hK
  obtain⟨f0,f1,f2,f3,f4,f5⟩:=hf it (by simp)
  have W:=Walks.range (prog:=X.prog) (w:=X.w) (I.ok.hd hc) it lo 1 n
  refine TK.b9 (Nat.le_refl s.toks) (W.item i s _ _ hg st λv h' tk hv st' kk hup=>?_)
  obtain⟨t,rfl⟩:=hv
  have I1:Inv X pins σ H { s with heap:=h',toks:=tk }:=I.turned (λb o hb e=>kk b o (by simpa using hb) e) f0 f1 f3 f4 f5
  refine⟨_,rfl,Cj (s:={ s with heap:=h',toks:=tk }) (n:= "range_iterator") st' rfl rfl (by decide) ⟨.int (lo+i),H,I1,⟨t,?_⟩,⟨rfl,rfl⟩,st',λb hb=>(hf b hb).1⟩⟩
  rw[Int.mul_one]
 done:=by
  intro X hP hw hK hc i pins s σ H E I hf st hg
  subst hP hw hK
  obtain⟨f0,f1,f2,f3,f4,f5⟩:=hf it (by simp)
  exact wpAny_pyNext_range_end (I.ok.hd hc) st (by have:n<=i:=hg;omega) λh' eb=>⟨rfl,I.turned (t':=s.toks) (λb o hb e=>eb b o hb e) f0 f1 f3 f4 f5⟩
 self:=λ_ _ _ _ _ st h=>wpAny_pyIter_rangeiter st h
end L2
namespace L2
open PySem PySem.Spec PyProof.Rows
section
variable{X:Cx}{tg:Expr}
def HW(K:PySem.W.Frag)(tl:TE):TI:=λσ H R=>tl σ H λx H1=>∃a,x= .ref a/\(∃xs,bX K H1 a xs)/\R (Nm K a) H1
theorem kJ{l:Expr}{tl:TE}(hl:PE X l tl):PI X tg l (HW X.K tl):=by
 intro pins s σ H R I h
 refine fK (hl pins s σ H _ I h) λv s1 ⟨x,H1,I1,r1,q1⟩=>?_
 obtain⟨a,e,⟨xs,hq⟩,q⟩:=q1
 subst e
 cases r1
 obtain⟨its,rv,p,hz⟩:=I1.list hq
 refine wpAny_pyIter_list p.isList ?_
 refine⟨s1.heap.objs.size,[s1.heap.objs.size],_,_,H1,rfl,I1.kept (t':=s1.toks) λb o e=>Heap.get?_push_of_some _ e,vG a _,⟨_,Heap.get?_push_size _ rfl,rfl,rfl⟩,λb hb=>?_,q⟩
 have e:b=s1.heap.objs.size:=by simpa using hb
 subst e
 exact I1.zG (Nat.le_refl _) (I1.hok.fresh (Nat.le_refl _))
theorem EB{pins:List (Addr×Obj)}{σ:St}{H:Hp}{s:Shared}{R:It->Hp->Prop}{E:Value->Shared->Prop}{lo hi:Int}{t u v:Tok}{tk:Nat}(I:Inv X pins σ H s)(h1: -(2 ^ 62)<=lo)(h2:lo<2 ^ 62)(h3: -(2 ^ 62)<=hi)(h4:hi<2 ^ 62)
  (q:R (La lo (hi-lo).toNat) H) (htk:s.toks<=tk:=by first|exact Nat.le_refl _|exact Nat.le_succ _|assumption|omega):wpAny (model X.prog X.w) X.A (pyIter (.ref s.heap.objs.size)) (Uw X pins σ tg R) E { s with heap:=s.heap.push { cls:=.type "range",data:=.fields #[.int lo t,.int hi u,.int 1 v] },toks:=tk }:=by
 refine wpAny_pyIter_range (IsRange.new ..) (small_one h1 h2 h3 h4) ?_
 have I1:Inv X pins σ H { s with heap:=s.heap.push { cls:=.type "range",data:=.fields #[.int lo t,.int hi u,.int 1 v] },toks:=tk }:=I.kept λb o e=>Heap.get?_push_of_some _ e
 refine⟨(s.heap.push { cls:=.type "range",data:=.fields #[.int lo t,.int hi u,.int 1 v] }).objs.size,[(s.heap.push { cls:=.type "range",data:=.fields #[.int lo t,.int hi u,.int 1 v] }).objs.size],_,_,H,rfl,
  I1.kept (t':=tk) λb o e=>Heap.get?_push_of_some _ e,Af _ lo (hi-lo).toNat,?_,λb hb=>?_,q⟩
 ·have e1:lo+((0:Nat):Int)*1=lo:=by simp
  have e2:(((hi-lo).toNat:Nat):Int)-((0:Nat):Int)=Builtin.Range.rangeSize lo hi 1:=by rw[rangeSize_one];split<;>omega
  show IsRangeIter _ _ (lo+((0:Nat):Int)*1) ((((hi-lo).toNat:Nat):Int)-((0:Nat):Int)) 1
  rw[e1,e2]
  exact Heap.get?_push_size _ rfl
 ·have e:b=(s.heap.push { cls:=.type "range",data:=.fields #[.int lo t,.int hi u,.int 1 v] }).objs.size:=by simpa using hb
  subst e
  exact I1.zG (Nat.le_refl _) (I1.hok.fresh (Nat.le_refl _))
def Mn(ta:TA):TI:=λσ H R=>ta σ H λvs H1=>∃j:Int,vs=[.int j]/\ -(2 ^ 62)<=j/\j<2 ^ 62/\R (La 0 j.toNat) H1
theorem jl {a:Expr} {ta:TA} {p pos:Pos} (hg:Gl X "range") (hm:X.mg "range" =none) (ha:PA X [a] ta) (hs:starEach [a] X.env=[(false,eval a X.env)]:=by rfl):PI X tg (.Call (.Name "range" p) [a] [] pos) (Mn ta):=by
 intro pins s σ H R I h
 refine Call_ (um I hg hm boot_range (PyProof.Rows.callWith_type1 (fK (ha pos pins s σ H _ I h) λus s1 ⟨vs,H1,I1,r1,q1⟩=>?_) hs rfl))
 obtain⟨j,e,q1,q2,q⟩:=q1
 subst e
 cases r1 with
 |cons r rr =>
  cases rr
  obtain⟨t,rfl⟩:=r
  exact call_range_1 (EB I1 (by omega) (by omega) q1 q2 (by simpa using q))
def Qt(wi:TI)(g:TG)(tb:TS):TS:=λD σ H=>wi σ H λJ H1=>∃W:Nat->Nat->St->Hp->Prop,(∃m,W 0 m σ H1)/\∀i m σ H,W i m σ H →
 (J.stop i H/\D.nx σ H)\/(J.go i H/\∃N:St->Hp->Prop,(∀ σ' H',N σ' H'->∃m',m'<m/\W (i+1) m' σ' H')/\∀x H',J.Bl i H x H'->g x σ H' λσ2 H2=>tb { D with nx:=N,ct:=N,bk:=D.nx } σ2 H2)
def kc(fp:List Addr)(h:Heap):List (Addr×Obj):=fp.filterMap λb=>(h.get? b).map λo=>(b,o)
theorem iH{fp:List Addr}{h:Heap}{b:Addr}{o:Obj}(hb:b∈fp)(e:h.get? b=some o):(b,o)∈kc fp h:=List.mem_filterMap.mpr ⟨b,hb,by rw[e];rfl⟩
theorem C4{fp:List Addr}{h:Heap}{p:Addr×Obj}(hp:p∈kc fp h):p.1∈fp/\h.get? p.1=some p.2:=by
 obtain⟨b,hb,e⟩:=List.mem_filterMap.mp hp
 cases q:h.get? b with
 |none=>rw[q]at e;cases e
 |some o =>
  rw[q]at e
  have e':(b,o)=p:=Option.some.inj e
  subst e'
  exact⟨hb,q⟩
theorem Inv.pinned{pins:List (Addr×Obj)}{σ:St}{H:Hp}{s:Shared}{fp:List Addr}(I:Inv X pins σ H s)(hf:∀b∈fp,nM X pins H b)(ho:∀b∈fp,∃o,s.heap.get? b=some o/\∀v,o.data≠ .cell v):Inv X (pins++kc fp s.heap) σ H s :=
 I.xg λp hp=>(List.mem_append.mp hp).elim (λz=>I.pin p (List.mem_append_right _ z)) λz=>by
  obtain⟨hb,e⟩:=C4 z
  obtain⟨f0,f1,f2,_⟩:=hf p.1 hb
  obtain⟨o,e',d⟩:=ho p.1 hb
  rw[e]at e';cases e'
  exact⟨e,f0,f1,f2,d⟩
theorem Inv.sZ{pins pl:List (Addr×Obj)}{σ:St}{H:Hp}{s:Shared}(I:Inv X (pins++pl) σ H s):Inv X pins σ H s:=I.xg λp hp=>I.pin p (List.mem_append_right _ (List.mem_append_left _ hp))
theorem jM{iter:Expr}{body:List Stmt}{wi:TI}{g:TG}{tb:TS}{pos:Pos}(hp:PassesOwn (model X.prog X.w) X.A X.env X.xe)(hc:X.calm=true)(hi:PI X tg iter wi)(hg:PG X tg g)(hb:vt X body tb)
  (hs:∀x,foldedSetIterable iter X.env x=pure x:=by intro _;rfl):PS X (.For tg iter body [] pos) (Qt wi g tb):=by
 intro pins s σ H D I h
 refine wpAny_For (fK (hi pins s σ H _ I h) λv s1 h1=>fK h1 λitv s2 h2=>?_) hs
 obtain⟨it,fp,tn,J,H2,e,I2,T,st2,f2,W,⟨m0,w0⟩,turn⟩:=h2
 subst e
 have stat:∀{H':Hp},(∀b∈fp,H' b=none)->∀b∈fp,nM X pins H' b:=λhn b hb=>⟨hn b hb,(f2 b hb).2⟩
 refine codeAny_forLoop_any (λn s'=>∃i σ' H',Inv X pins σ' H' s'/\tn i s'.heap/\(∀b∈fp,H' b=none)/\W i n σ' H') ?_ m0 ⟨0,σ,H2,I2,st2,λb hb=>(f2 b hb).1,w0⟩
 rintro n s3 ⟨i,σ3,H3,I3,st3,Um,w3⟩
 rcases turn i n σ3 H3 w3 with⟨stop,qn⟩|⟨go,N,hN,step⟩
 ·refine wpAny_passesOwn hp (fK (T.done X rfl rfl rfl hc i pins s3 σ3 H3 X.xe I3 (stat Um) st3 stop) λr s4 ⟨hr,I4⟩=>?_)
  subst hr
  exact wpAny_execs_nil ⟨σ3,H3,I4,qn⟩
 ·refine wpAny_passesOwn hp (fK (T.item X rfl rfl rfl hc i pins s3 σ3 H3 X.xe I3 (stat Um) st3 go) λr s4 ⟨u,hr,h4⟩=>?_)
  subst hr
  refine wpAny_passesOwn hp (fK h4 λ_ s5 ⟨x,H5,I5,r5,y5,Qx,Wi⟩=>?_)
  have Wy:=I5.pinned (stat Wi) (T.obj _ _ Qx)
  refine wpAny_passesOwn hp (fK (hg _ s5 σ3 H5 x u _ Wy r5 (step x H5 y5)) λ_ s6 ⟨UA,H6,I6,q6⟩=>?_)
  refine wpAny_passesOwn hp (fK (hb _ s6 UA H6 _ I6 q6) λf s7 q7=>?_)
  have again:∀{ym:St} {H7:Hp},Inv X (pins++kc fp s5.heap) ym H7 s7->N ym H7->∃m,m<n/\∃i σ' H',Inv X pins σ' H' s7/\tn i s7.heap/\(∀b∈fp,H' b=none)/\W i m σ' H':=λ{ym H7} I7 n7=>by
   obtain⟨m',hm,w7⟩:=hN ym H7 n7
   refine⟨m',hm,i+1,ym,H7,I7.sZ,T.keep _ _ _ Qx λb hb o e=>(I7.pin (b,o) (List.mem_append_right _ (List.mem_append_right _ (iH hb e)))).1,λb hb=>?_,w7⟩
   obtain⟨o,e,d⟩:=T.obj _ _ Qx b hb
   exact(I7.pin (b,o) (List.mem_append_right _ (List.mem_append_right _ (iH hb e)))).2.1
  cases f with
  |next=>obtain⟨ym,H7,I7,n7⟩:=q7;exact again I7 n7
  |cont=>obtain⟨ym,H7,I7,n7⟩:=q7;exact again I7 n7
  |brk=>obtain⟨ym,H7,I7,q7⟩:=q7;exact⟨ym,H7,I7.sZ,q7⟩
  |ret v=>obtain⟨x7,ym,H7,I7,r7,q7⟩:=q7;exact⟨x7,ym,H7,I7.sZ,r7,q7⟩
end
theorem uz{K:PySem.W.Frag}{a:Addr}{xs:List V}{g:TG}{tb:TS}{D:Ends}{σ:St}{H:Hp}(Pv:Nat->St->Hp->Prop)(h0:Pv 0 σ H)(hl:∀i σ H,i<=xs.length->Pv i σ H->bX K H a xs)
  (hs:∀i x σ H,xs[i]? =some x->Pv i σ H->g x σ H λσ2 H2=>tb { D with nx:=Pv (i+1),ct:=Pv (i+1),bk:=D.nx } σ2 H2) (hd:∀ σ H,Pv xs.length σ H->D.nx σ H) :
  ∃W:Nat->Nat->St->Hp->Prop,(∃m,W 0 m σ H)/\∀i m σ H,W i m σ H →
   ((Nm K a).stop i H/\D.nx σ H)\/((Nm K a).go i H/\∃N:St->Hp->Prop,(∀ σ' H',N σ' H'->∃m',m'<m/\W (i+1) m' σ' H')/\∀x H',(Nm K a).Bl i H x H'->g x σ H' λσ2 H2=>tb { D with nx:=N,ct:=N,bk:=D.nx } σ2 H2):=by
 refine⟨λi m σ H=>m=xs.length-i/\i<=xs.length/\Pv i σ H,⟨xs.length,by simp,Nat.zero_le _,h0⟩,?_⟩
 rintro i m σ H ⟨rfl,hi,p⟩
 have q:=hl i σ H hi p
 by_cases hlt:i<xs.length
 ·refine .inr ⟨⟨xs,xs[i],q,by simp[hlt]⟩,Pv (i+1),λσ' H' p'=>⟨xs.length-(i+1),by omega,rfl,hlt,p'⟩,λx H' y=>?_⟩
  obtain⟨e,y⟩:=y
  subst e
  exact hs i x σ _ (y xs q) p
 ·have e:i=xs.length:=by omega
  subst e
  exact .inl ⟨⟨xs,q,Nat.le_refl _⟩,hd σ H p⟩
theorem nW{lo:Int}{n:Nat}{g:TG}{tb:TS}{D:Ends}{σ:St}{H:Hp}(Pv:Nat->St->Hp->Prop)(h0:Pv 0 σ H)
  (hs:∀i σ H,i<n->Pv i σ H->g (.int (lo+i)) σ H λσ2 H2=>tb { D with nx:=Pv (i+1),ct:=Pv (i+1),bk:=D.nx } σ2 H2) (hd:∀ σ H,Pv n σ H->D.nx σ H) :
  ∃W:Nat->Nat->St->Hp->Prop,(∃m,W 0 m σ H)/\∀i m σ H,W i m σ H →
   ((La lo n).stop i H/\D.nx σ H)\/((La lo n).go i H/\∃N:St->Hp->Prop,(∀ σ' H',N σ' H'->∃m',m'<m/\W (i+1) m' σ' H')/\∀x H',(La lo n).Bl i H x H'->g x σ H' λσ2 H2=>tb { D with nx:=N,ct:=N,bk:=D.nx } σ2 H2):=by
 refine⟨λi m σ H=>m=n-i/\i<=n/\Pv i σ H,⟨n,by simp,Nat.zero_le _,h0⟩,?_⟩
 rintro i m σ H ⟨rfl,hi,p⟩
 by_cases hlt:i<n
 ·refine .inr ⟨hlt,Pv (i+1),λσ' H' p'=>⟨n-(i+1),by omega,rfl,hlt,p'⟩,λx H' y=>?_⟩
  obtain⟨e,y⟩:=y
  subst e y
  exact hs i σ _ hlt p
 ·have e:i=n:=by omega
  subst e
  exact .inl ⟨Nat.le_refl _,hd σ H p⟩
end L2
namespace L2
open PySem PySem.Spec PyProof.Rows
abbrev R2:=V->V->Hp->VK->Prop
def mL(X:Cx)(f:Value->Value->Sem Value)(r:R2):Prop :=
 ∀(pins:List (Addr×Obj)) (s:Shared) (σ:St) (H:Hp) (x y:V) (v u:Value) (Q:VK),Inv X pins σ H s->RelV x v->RelV y u->r x y H Q →
  wpAny (model X.prog X.w) X.A (f v u) (EP X pins σ Q) X.xe s
def SG(X:Cx)(f:Value->Sem Value)(r:V->Hp->VK->Prop):Prop :=
 ∀(pins:List (Addr×Obj)) (s:Shared) (σ:St) (H:Hp) (x:V) (v:Value) (Q:VK),Inv X pins σ H s->RelV x v->r x H Q →
  wpAny (model X.prog X.w) X.A (f v) (EP X pins σ Q) X.xe s
def iV(X:Cx)(f:Value)(r:List V->Hp->VK->Prop):Prop :=
 ∀(pins:List (Addr×Obj)) (s:Shared) (σ:St) (H:Hp) (xs:List V) (us:List Value) (Q:VK),Inv X pins σ H s->Vals xs us->r xs H Q →
  wpAny (model X.prog X.w) X.A (call f us) (EP X pins σ Q) X.xe s
def Nv(r:R2)(ta tb:TE):TE:=λσ H Q=>ta σ H λx H1=>tb σ H1 λy H2=>r x y H2 Q
def UJ(r:V->Hp->VK->Prop)(ta:TE):TE:=λσ H Q=>ta σ H λx H1=>r x H1 Q
def rI(C:Int->Int->Prop)(g:Int->Int->V):R2:=λx y H Q=>∃i j,x= .int i/\y= .int j/\C i j/\Q (g i j) H
def HK(g:Int->Int->V):R2:=λx y H Q=>∃i j,x= .int i/\y= .int j/\Q (g i j) H
def rU(g:Int->V):V->Hp->VK->Prop:=λx H Q=>∃i,x= .int i/\Q (g i) H
section
variable{X:Cx}{a b c:Expr}{ta tb tc:TE}{pos:Pos}
theorem KD(ha:PE X a ta)(hb:PE X b tb){pins:List (Addr×Obj)}{s:Shared}{σ:St}{H:Hp}{R:V->V->Hp->Prop}(I:Inv X pins σ H s)
  (h:ta σ H λx H1=>tb σ H1 λy H2=>R x y H2) {Q:Value->Shared->Prop} {f:Value->Value->Sem Value}
  (hf:∀v u s2 x y H2,Inv X pins σ H2 s2->RelV x v->RelV y u->R x y H2->wpAny (model X.prog X.w) X.A (f v u) Q X.xe s2) :
  wpAny (model X.prog X.w) X.A (eval a X.env) (λv s₁=>wpAny (model X.prog X.w) X.A (eval b X.env) (λu s₂=>wpAny (model X.prog X.w) X.A (f v u) Q X.xe s₂) X.xe s₁) X.xe s:=by
 refine fK (ha pins s σ H _ I h) λv s1 ⟨x,H1,I1,r1,q1⟩=>?_
 refine fK (hb pins s1 σ H1 _ I1 q1) λu s2 ⟨y,H2,I2,r2,q2⟩=>?_
 exact hf v u s2 x y H2 I2 r1 r2 q2
theorem aB{op:Operator}{r:R2}(ho:mL X (binaryOp op) r)(ha:PE X a ta)(hb:PE X b tb):PE X (.BinOp a op b pos) (Nv r ta tb):=by
 intro pins s σ H Q I h
 exact wpAny_BinOp (KD ha hb I h λv u s2 x y H2 I2 rx ry q=>ho pins s2 σ H2 x y v u Q I2 rx ry q)
theorem EH{op:UnaryOp}{r:V->Hp->VK->Prop}(ho:SG X (unaryOp op) r)(ha:PE X a ta):PE X (.UnaryOp op a pos) (UJ r ta):=by
 intro pins s σ H Q I h
 exact UnaryOp_ (fK (ha pins s σ H _ I h) λv s1 ⟨x,H1,I1,r1,q1⟩=>ho pins s1 σ H1 x v Q I1 r1 q1)
theorem KW{f:Value->Value->Sem Value}{C:Int->Int->Prop}{g:Int->Int->Int}
  (rule:∀(i j:Int) (t u:Tok) (s:Shared) (Q:Value->Shared->Prop) (E:Value->Shared->Prop),C i j->Q (.int (g i j) s.toks) { s with toks:=s.toks+1 }->wpAny (model X.prog X.w) X.A (f (.int i t) (.int j u)) Q E s) :
  mL X f (rI C λi j=>.int (g i j)):=by
 intro pins s σ H x y v u Q I rx ry h
 obtain⟨i,j,rfl,rfl,hc,q⟩:=h
 obtain⟨t,rfl⟩:=rx
 obtain⟨t',rfl⟩:=ry
 exact rule i j t t' s _ _ hc ⟨.int (g i j),H,I.tok _,⟨_,rfl⟩,q⟩
theorem LR{f:Value->Value->Sem Value}{g:Int->Int->Int}
  (rule:∀(i j:Int) (t u:Tok) (s:Shared) (Q:Value->Shared->Prop) (E:Value->Shared->Prop),Q (.int (g i j) s.toks) { s with toks:=s.toks+1 }->wpAny (model X.prog X.w) X.A (f (.int i t) (.int j u)) Q E s) :
  mL X f (HK λi j=>.int (g i j)):=by
 intro pins s σ H x y v u Q I rx ry h
 obtain⟨i,j,rfl,rfl,q⟩:=h
 obtain⟨t,rfl⟩:=rx
 obtain⟨t',rfl⟩:=ry
 exact rule i j t t' s _ _ ⟨.int (g i j),H,I.tok _,⟨_,rfl⟩,q⟩
theorem GG{f:Value->Value->Sem Value}{g:Int->Int->Bool}
  (rule:∀(i j:Int) (t u:Tok) (s:Shared) (Q:Value->Shared->Prop) (E:Value->Shared->Prop),Q (.bool (g i j)) s->wpAny (model X.prog X.w) X.A (f (.int i t) (.int j u)) Q E s) :
  mL X f (HK λi j=>.bl (g i j)):=by
 intro pins s σ H x y v u Q I rx ry h
 obtain⟨i,j,rfl,rfl,q⟩:=h
 obtain⟨t,rfl⟩:=rx
 obtain⟨t',rfl⟩:=ry
 exact rule i j t t' s _ _ ⟨.bl (g i j),H,I,rfl,q⟩
def SM(i j:Int):Prop:=0<j/\j<1073741824
def SK(i j:Int):Prop:=0<=j/\j<=1000000/\i.natAbs<2 ^ 64
def KO(i j:Int):Prop:=(-(2 ^ 64)<i/\i<2 ^ 64)\/(-(2 ^ 64)<j/\j<2 ^ 64)
theorem KO.ok{i j:Int}(h:KO i j):IntMulOk i j:=by
 rcases h with⟨h1,h2⟩|⟨h1,h2⟩
 ·exact .of_left (intBits_le_64 h1 h2)
 ·exact .of_right (intBits_le_64 h1 h2)
theorem gu:mL X (binaryOp .Add) (HK λi j=>.int (i+j)):=LR λ_ _ _ _ _ _ _ q=>add_int q
theorem EL:mL X (binaryOp .Sub) (HK λi j=>.int (i-j)):=LR λ_ _ _ _ _ _ _ q=>sub_int q
theorem o9:mL X (binaryOp .Mult) (rI KO λi j=>.int (i*j)):=KW λ_ _ _ _ _ _ _ hc q=>mul_int q hc.ok
theorem gw:mL X (binaryOp .FloorDiv) (rI SM λi j=>.int (i / j)):=KW λi j _ _ _ _ _ hc q=>by
 have h1:(0:Int)<j:=hc.1
 have h2:j<1073741824:=hc.2
 exact floordiv_int (by omega) (by rw[Int.fdiv_eq_ediv_of_nonneg i (by omega)];exact q) (.inl (PyProof.noPylong_small (by omega)))
theorem cA:mL X (binaryOp .Mod) (rI (λ_ j=>0<j) λi j=>.int (i % j)):=KW λi j _ _ _ _ _ hc q=>by
 have h1:(0:Int)<j:=hc
 exact mod_int' (by omega) (by rw[Int.fmod_eq_emod_of_nonneg i (by omega)];exact q)
theorem qL:mL X (binaryOp .Pow) (rI SK λi j=>.int (i ^ j.toNat)):=KW λ_ _ _ _ _ _ _ hc q=>pow_int_small hc.1 hc.2.1 hc.2.2 q
theorem UH{f:Value->Sem Value}{g:Int->Int}
  (rule:∀(i:Int) (t:Tok) (s:Shared) (Q:Value->Shared->Prop) (E:Value->Shared->Prop),Q (.int (g i) s.toks) { s with toks:=s.toks+1 }->wpAny (model X.prog X.w) X.A (f (.int i t)) Q E s) :
  SG X f (rU λi=>.int (g i)):=by
 intro pins s σ H x v Q I rx h
 obtain⟨i,rfl,q⟩:=h
 obtain⟨t,rfl⟩:=rx
 exact rule i t s _ _ ⟨.int (g i),H,I.tok _,⟨_,rfl⟩,q⟩
theorem Ac:SG X (unaryOp .USub) (rU λi=>.int (-i)):=UH λ_ _ _ _ _ q=>neg_int q
end
def LA:V->V->Bool
 | .gx,.gx=>true| .gx,.int _=>true| .int _,.gx=>true| .gx,.bl _=>true| .bl _,.gx=>true| .gx,.str _=>true| .str _,.gx=>true
 | .int _,.int _=>true| .bl _,.bl _=>true| .str _,.str _=>true| .Cw _,.Cw _=>true
 | .int _,.str _=>true| .str _,.int _=>true| .bl _,.str _=>true| .str _,.bl _=>true
 |_,_=>false
def UW:R2:=λx y H Q=>LA x y=true/\Q (.bl (decide (x=y))) H
def UT:R2:=λx y H Q=>LA x y=true/\Q (.bl (!decide (x=y))) H
theorem nY{i j:Int}:decide (V.int i=V.int j)=(i==j):=by
 rw[Bool.eq_iff_iff]
 simp
theorem FG{i j:Bool}:decide (V.bl i=V.bl j)=(i==j):=by
 rw[Bool.eq_iff_iff]
 simp
theorem Cq{i j:Str}:decide (V.str i=V.str j)=(i==j):=by
 rw[Bool.eq_iff_iff]
 simp
theorem Cr{i j:Array UInt8}:decide (V.Cw i=V.Cw j)=(i.toList==j.toList):=by
 rw[Bool.eq_iff_iff]
 cases i
 cases j
 simp
section
variable{X:Cx}{a b c:Expr}{ta tb tc:TE}{pos:Pos}
theorem cB{pins:List (Addr×Obj)}{σ:St}{H:Hp}{s:Shared}{Q:VK}{k k':Bool}(I:Inv X pins σ H s)(q:Q (.bl k) H)(e:k=k'):EP X pins σ Q (.bool k') s:=by
 subst e
 exact⟨.bl k,H,I,rfl,q⟩
theorem iP:mL X (compareOp .Eq) UW:=by
 intro pins s σ H x y v u Q I rx ry h
 obtain⟨hs,q⟩:=h
 cases x with
 |gx =>
  cases rx
  cases y with
  |gx=>cases ry;exact PySem.EqNone.eq_none_none (cB I q (by simp))
  |bl j=>cases ry;exact PySem.EqNone.eq_none_bool (cB I q (by simp))
  |int j=>obtain⟨t',rfl⟩:=ry;exact PySem.EqNone.eq_none_int (cB I q (by simp))
  |str j=>obtain⟨t',rfl⟩:=ry;exact PySem.EqNone.eq_none_str (cB I q (by simp))
  |_=>exact absurd (show false=true from hs) Bool.false_ne_true
 |bl i =>
  cases rx
  cases y with
  |gx=>cases ry;exact PySem.EqNone.eq_bool_none (cB I q (by simp))
  |bl j=>cases ry;exact eq_bool (cB I q FG)
  |str j=>obtain⟨t',rfl⟩:=ry;exact PySem.EqMixed.eq_bool_str (cB I q (by simp))
  |_=>exact absurd (show false=true from hs) Bool.false_ne_true
 |int i =>
  obtain⟨t,rfl⟩:=rx
  cases y with
  |gx=>cases ry;exact PySem.EqNone.eq_int_none (cB I q (by simp))
  |int j=>obtain⟨t',rfl⟩:=ry;exact eq_int (cB I q nY)
  |str j=>obtain⟨t',rfl⟩:=ry;exact PySem.EqMixed.eq_int_str (cB I q (by simp))
  |_=>exact absurd (show false=true from hs) Bool.false_ne_true
 |str i =>
  obtain⟨t,rfl⟩:=rx
  cases y with
  |gx=>cases ry;exact PySem.EqNone.eq_str_none (cB I q (by simp))
  |bl j=>cases ry;exact PySem.EqMixed.eq_str_bool (cB I q (by simp))
  |int j=>obtain⟨t',rfl⟩:=ry;exact PySem.EqMixed.eq_str_int (cB I q (by simp))
  |str j=>obtain⟨t',rfl⟩:=ry;exact eq_str (cB I q Cq)
  |_=>exact absurd (show false=true from hs) Bool.false_ne_true
 |Cw i =>
  obtain⟨t,rfl⟩:=rx
  cases y with
  |Cw j=>obtain⟨t',rfl⟩:=ry;exact PySem.W.eq_bytes (cB I q Cr)
  |_=>exact absurd (show false=true from hs) Bool.false_ne_true
 |_=>cases y<;>exact absurd (show false=true from hs) Bool.false_ne_true
theorem oK:mL X (compareOp .NotEq) UT:=by
 intro pins s σ H x y v u Q I rx ry h
 obtain⟨hs,q⟩:=h
 cases x with
 |gx =>
  cases rx
  cases y with
  |gx=>cases ry;exact PySem.EqNone.ne_none_none (cB I q (by simp))
  |bl j=>cases ry;exact PySem.EqNone.ne_none_bool (cB I q (by simp))
  |int j=>obtain⟨t',rfl⟩:=ry;exact PySem.EqNone.ne_none_int (cB I q (by simp))
  |str j=>obtain⟨t',rfl⟩:=ry;exact PySem.EqNone.ne_none_str (cB I q (by simp))
  |_=>exact absurd (show false=true from hs) Bool.false_ne_true
 |bl i =>
  cases rx
  cases y with
  |gx=>cases ry;exact PySem.EqNone.ne_bool_none (cB I q (by simp))
  |bl j=>cases ry;exact ne_bool (cB I q (congrArg not FG))
  |str j=>obtain⟨t',rfl⟩:=ry;exact PySem.EqMixed.ne_bool_str (cB I q (by simp))
  |_=>exact absurd (show false=true from hs) Bool.false_ne_true
 |int i =>
  obtain⟨t,rfl⟩:=rx
  cases y with
  |gx=>cases ry;exact PySem.EqNone.ne_int_none (cB I q (by simp))
  |int j=>obtain⟨t',rfl⟩:=ry;exact ne_int (cB I q (congrArg not nY))
  |str j=>obtain⟨t',rfl⟩:=ry;exact PySem.EqMixed.ne_int_str (cB I q (by simp))
  |_=>exact absurd (show false=true from hs) Bool.false_ne_true
 |str i =>
  obtain⟨t,rfl⟩:=rx
  cases y with
  |gx=>cases ry;exact PySem.EqNone.ne_str_none (cB I q (by simp))
  |bl j=>cases ry;exact PySem.EqMixed.ne_str_bool (cB I q (by simp))
  |int j=>obtain⟨t',rfl⟩:=ry;exact PySem.EqMixed.ne_str_int (cB I q (by simp))
  |str j=>obtain⟨t',rfl⟩:=ry;exact ne_str (cB I q (congrArg not Cq))
  |_=>exact absurd (show false=true from hs) Bool.false_ne_true
 |Cw i =>
  obtain⟨t,rfl⟩:=rx
  cases y with
  |Cw j=>obtain⟨t',rfl⟩:=ry;exact PySem.W.ne_bytes (cB I q (congrArg not Cr))
  |_=>exact absurd (show false=true from hs) Bool.false_ne_true
 |_=>cases y<;>exact absurd (show false=true from hs) Bool.false_ne_true
theorem EM:mL X (compareOp .Lt) (HK λi j=>.bl (decide (i<j))):=GG λ_ _ _ _ _ _ _ q=>lt_int q
theorem BU:mL X (compareOp .LtE) (HK λi j=>.bl (decide (i<=j))):=GG λ_ _ _ _ _ _ _ q=>le_int q
theorem tV:mL X (compareOp .Gt) (HK λi j=>.bl (decide (j<i))):=GG λ_ _ _ _ _ _ _ q=>gt_int q
theorem HN:mL X (compareOp .GtE) (HK λi j=>.bl (decide (j<=i))):=GG λ_ _ _ _ _ _ _ q=>ge_int q
theorem CW:mL X (compareOp .In) (λx y H Q=>∃i j,x= .str i/\y= .str j/\Q (.bl (!(Builtin.Str.occurrences j i 0 j.length 1).isEmpty)) H):=by
 intro pins s σ H x y v u Q I rx ry h
 obtain⟨i,j,rfl,rfl,q⟩:=h
 obtain⟨t,rfl⟩:=rx
 obtain⟨t',rfl⟩:=ry
 exact in_str (cB I q rfl)
theorem mL.or{f:Value->Value->Sem Value}{r r':R2}(h:mL X f r)(h':mL X f r'):mL X f (λx y H Q=>r x y H Q\/r' x y H Q):=by
 intro pins s σ H x y v u Q I rx ry q
 rcases q with q|q
 ·exact h pins s σ H x y v u Q I rx ry q
 ·exact h' pins s σ H x y v u Q I rx ry q
theorem bH(b:Expr){op:CmpOp}(h:op≠ .In:=by decide)(h2:op≠ .NotIn:=by decide):behindInMarks op b=false:=by
 have e1:(op==CmpOp.In)=false:=by cases op<;>first|rfl|exact absurd rfl h
 have e2:(op==CmpOp.NotIn)=false:=by cases op<;>first|rfl|exact absurd rfl h2
 cases b<;>simp[behindInMarks,e1,e2]
theorem lU{op:CmpOp}{r:R2}(ho:mL X (compareOp op) r)(ha:PE X a ta)(hb:PE X b tb)(hm:behindInMarks op b=false):PE X (.Compare a [op] [b] pos) (Nv r ta tb):=by
 intro pins s σ H Q I h
 exact wpAny_Compare1 (KD ha hb I h λv u s2 x y H2 I2 rx ry q=>ho pins s2 σ H2 x y v u Q I2 rx ry q) hm
def Li(t:TE):TT:=λσ H Q=>t σ H λx H'=>∃k,x= .bl k/\Q k H'
theorem bw{op:CmpOp}{r:R2}(ho:mL X (compareOp op) r)(ha:PE X a ta)(hb:PE X b tb)(hm:behindInMarks op b=false):PT X (.Compare a [op] [b] pos) (Li (Nv r ta tb)):=by
 intro pins s σ H Q I h
 refine wpAny_isTrue_Compare1 (fK (ha pins s σ H _ I h) λv s1 ⟨x,H1,I1,r1,q1⟩=>fK (hb pins s1 σ H1 _ I1 q1) λu s2 ⟨y,H2,I2,r2,q2⟩ =>
  fK (ho pins s2 σ H2 x y v u _ I2 r1 r2 q2) λc s3 ⟨z,H3,I3,r3,k,e,q3⟩=>?_) hm
 subst e
 cases r3
 exact wpAny_truthy_bool ⟨H3,I3,q3⟩
def Jl(r r':R2)(ta tb tc:TE):TE:=λσ H Q=>ta σ H λx H1=>tb σ H1 λy H2=>r x y H2 λz H3=>∃k,z= .bl k ∧
 (if k=true then tc σ H3 λw' H4=>r' y w' H4 Q else Q (.bl false) H3)
theorem yS{op op':CmpOp}{r r':R2}(ho:mL X (compareOp op) r)(ho':mL X (compareOp op') r')(ha:PE X a ta)(hb:PE X b tb)(hc:PE X c tc)
  (hm:lastMarks [op,op'] [b,c]=false:=by with_unfolding_all rfl):PE X (.Compare a [op,op'] [b,c] pos) (Jl r r' ta tb tc):=by
 intro pins s σ H Q I h
 refine Compare_chain (fK (ha pins s σ H _ I h) λv s1 ⟨x,H1,I1,r1,q1⟩=>chain_link (fK (hb pins s1 σ H1 _ I1 q1) λu s2 ⟨y,H2,I2,r2,q2⟩ =>
  fK (ho pins s2 σ H2 x y v u _ I2 r1 r2 q2) λd s3 ⟨z,H3,I3,r3,k,e,q3⟩=>?_)) hm
 subst e
 cases r3
 refine wpAny_truthy_bool ?_
 cases k with
 |false=>exact ite_ff ⟨.bl false,H3,I3,rfl,q3⟩
 |true=>exact ite_tt (chain_last (fK (hc pins s3 σ H3 _ I3 q3) λw' s4 ⟨z',H4,I4,r4,q4⟩=>ho' pins s4 σ H4 y z' u w' Q I4 r2 r4 q4))
theorem ug:(sizeLine:Nat)<2 ^ 63:=by rw[sizeLine_eq];decide
theorem bK:mL X (binaryOp .Add) (λx y H Q=>∃i j,x= .str i/\y= .str j/\i.length+j.length<=sizeLine/\Q (.str (i++j)) H):=by
 intro pins s σ H x y v u Q I rx ry h
 obtain⟨i,j,rfl,rfl,hz,q⟩:=h
 obtain⟨t,rfl⟩:=rx
 obtain⟨t',rfl⟩:=ry
 exact TK.b9 (Nat.le_refl _) (add_str (λt' tk hup=>⟨.str (i++j),H,I.tok _,⟨_,rfl⟩,q⟩) hz)
theorem vals1{x:V}{us:List Value}(r:Vals [x] us):∃u,us=[u]/\RelV x u:=by
 cases r with
 |cons r1 r2=>cases r2;exact⟨_,rfl,r1⟩
theorem vals2{x y:V}{us:List Value}(r:Vals [x,y] us):∃u w',us=[u,w']/\RelV x u/\RelV y w':=by
 cases r with
 |cons r1 r2 =>
  cases r2 with
  |cons r3 r4=>cases r4;exact⟨_,_,rfl,r1,r3⟩
theorem qp:iV X (.builtin "abs") (λxs H Q=>∃i,xs=[.int i]/\Q (.int (if i<0 then -i else i)) H):=by
 intro pins s σ H xs us Q I r h
 obtain⟨i,rfl,q⟩:=h
 obtain⟨u,rfl,t,rfl⟩:=vals1 r
 exact TK.b9 (Nat.le_refl _) (call_abs_int λu tk hup=>⟨.int (if i<0 then -i else i),H,I.tok _,⟨_,rfl⟩,q⟩)
theorem DC(hc:X.calm=true):iV X (.builtin "min") (λxs H Q=>∃i j,xs=[.int i,.int j]/\Q (.int (if j<i then j else i)) H):=by
 intro pins s σ H xs us Q I r h
 obtain⟨i,j,rfl,q⟩:=h
 obtain⟨u,w',rfl,⟨t,rfl⟩,⟨t',rfl⟩⟩:=vals2 r
 refine TK.b9 (Nat.le_refl _) (min_two_ints (I.ok.hd hc) λh' tk k hup=>⟨_,H,I.kept k,?_,q⟩)
 by_cases hj:j<i
 ·rw[if_pos hj,if_pos hj];exact⟨_,rfl⟩
 ·rw[if_neg hj,if_neg hj];exact⟨_,rfl⟩
theorem fX:iV X (.type "str") (λxs H Q=>∃i,xs=[.int i]/\i.natAbs.log2<1920/\Q (.str (toString i)) H):=by
 intro pins s σ H xs us Q I r h
 obtain⟨i,rfl,hz,q⟩:=h
 obtain⟨u,rfl,t,rfl⟩:=vals1 r
 exact PySem.P.str_of_int hz ⟨.str _,H,I.tok _,⟨_,rfl⟩,q⟩
theorem FN:iV X (.builtin "ord") (λxs H Q=>∃x,xs=[.str x]/\x.length=1/\Q (.int (x.cps.getD 0 0:Nat)) H):=by
 intro pins s σ H xs us Q I r h
 obtain⟨x,rfl,hz,q⟩:=h
 obtain⟨u,rfl,t,rfl⟩:=vals1 r
 exact ord_of_one hz ⟨.int _,H,I.tok _,⟨_,rfl⟩,q⟩
def Hu(K:PySem.W.Frag)(x:V)(H:Hp)(n:Nat):Prop :=
 match x with
 | .str y=>y.length<=sizeLine/\n=y.length
 | .Cw y=>y.size<=sizeLine/\n=y.size
 | .ref p=>(∃xs,bX K H p xs/\n=xs.length)\/∃xs,cL K H p xs/\n=xs.length
 |_=>False
theorem bL:iV X (.builtin "len") (λxs H Q=>∃x n,xs=[x]/\Hu X.K x H n/\Q (.int n) H):=by
 intro pins s σ H xs us Q I r h
 obtain⟨x,n,rfl,e,q⟩:=h
 obtain⟨u,rfl,rx⟩:=vals1 r
 have hl:=ug
 have hs:sizeLine=16777216:=sizeLine_eq
 cases x with
 |str y =>
  obtain⟨t,rfl⟩:=rx
  obtain⟨hy,e'⟩:y.length<=sizeLine/\n=y.length:=e
  subst e'
  exact len_str (by omega) ⟨.int _,H,I.tok _,⟨_,rfl⟩,q⟩
 |Cw y =>
  obtain⟨t,rfl⟩:=rx
  obtain⟨hy,e'⟩:y.size<=sizeLine/\n=y.size:=e
  subst e'
  exact PySem.W.len_bytes (by omega) ⟨.int _,H,I.tok _,⟨_,rfl⟩,q⟩
 |ref p =>
  cases rx
  have e':(∃xs,bX X.K H p xs/\n=xs.length)\/∃xs,cL X.K H p xs/\n=xs.length:=e
  rcases e' with⟨xs,hx,e'⟩|⟨xs,hx,e'⟩
  ·subst e'
   obtain⟨its,r',pl,hz⟩:=I.list hx
   have hlen:=r'.length
   exact Calls.call_len_list pl.isList (by simp only[List.size_toArray];omega) ⟨.int xs.length,H,I.tok _,⟨_,by simp only[List.size_toArray];rw[hlen]⟩,q⟩
  ·subst e'
   obtain⟨its,r',pl,hz⟩:=I.tuple hx
   have hlen:=r'.length
   exact len_tuple pl (by simp only[List.size_toArray];omega) ⟨.int xs.length,H,I.tok _,⟨_,by simp only[List.size_toArray];rw[hlen]⟩,q⟩
 |_=>exact(show False from e).elim
end
end L2
namespace L2
open PySem PySem.Spec PyProof.Rows
structure DH(h:Heap)(x dx C:Addr)(mA:Str->Option Value):Prop where
 obj:h.get? x=some (PySem.W.instObj C dx)
 ns:h.Ns1 dx mA
 ne:dx≠x
theorem qS{h:Heap}{dx:Addr}{mA:Str->Option Value}(n:h.Ns1 dx mA):∃od,h.get? dx=some od/\∀name,PySem.W.lookIn name od=some (mA name):=by
 obtain⟨o,es,ep,ho,hd,hk,_,hm⟩:=n
 refine⟨o,ho,λname=>?_⟩
 have e:=hm name
 unfold nsFind findBy at e
 rw[←Array.find?_toList]at e
 unfold PySem.W.lookIn
 rw[hd]
 dsimp only
 split
 ·rename_i y q
  rw[q]at e
  exact congrArg some e
 ·rename_i q
  rw[q]at e
  have a:es.toList.any (·.refKey)=false:=by
   rw[List.any_eq_false]
   intro y hy
   obtain⟨z,t,hkey⟩:=hk y (Array.mem_toList_iff.mp hy)
   simp[DictEntry.refKey,hkey]
  have a':¬es.toList.any (·.refKey)=true:=by rw[a];exact Bool.false_ne_true
  rw[if_neg a']
  exact congrArg some e
theorem DH.look{h:Heap}{x dx C:Addr}{mA:Str->Option Value}(I:DH h x dx C mA):∃od,PySem.W.InstAt h x (PySem.W.instObj C dx) C (some od)/\∀name,PySem.W.lookIn name od=some (mA name) :=
 let ⟨od,ho,hl⟩:=qS I.ns
 ⟨od,⟨I.obj,rfl,rfl,ho⟩,hl⟩
section
variable{prog:Program}{w:World}{A:Around}{E:Value->Shared->Prop}{s:Shared}{K:PySem.W.Frag}{x dx C f:Addr}{mA:Str->Option Value}{name:Str}{v:Value}
theorem get_map{expr:Bool}{Q:Value->Shared->Prop}(X:K.In s.heap)(I:DH s.heap x dx C mA)(hg:PySem.W.plainGet K C name=true)(hh:PySem.W.hasDictIn K C=true)
  (ha:PySem.W.findIn K (.ref C) name=some none) (hv:mA name=some v) (hv':PySem.W.handedIn v=true) (h:Q v { s with toks:=s.toks+1 }) :
  wpAny (model prog w) A (getAttr (.ref x) name expr) Q E s:=by
 obtain⟨od,J,hl⟩:=I.look
 exact PySem.W.get_value X J (PySem.W.plainGet_of hg).1 (PySem.W.findObj_own hh ha rfl (by rw[hl,hv])) hv' h
theorem nQ{ns:List Str}{Q:Unit->Shared->Prop}(X:K.In s.heap)(I:DH s.heap x dx C mA)
  (hs:PySem.W.findIn K (.ref C) "__setattr__" =some (some (.builtin "object.__setattr__"))) (hp:PySem.W.plainOver K C=true) (ht:PySem.W.takerIn K C name=some none) (hh:PySem.W.hasDictIn K C=true)
  (hw:PySem.Within mA ns) (hsz:ns.length<=sizeLine)
  (h:∀h',DH h' x dx C (λy=>if y=name then some v else mA y)->Heap.SameBut dx s.heap h'->Q () { s with heap:=h',toks:=s.toks+2 }) :
  wpAny (model prog w) A (setAttr (.ref x) name v) Q E s:=by
 obtain⟨od,J,hl⟩:=I.look
 refine PySem.W.set_plain X J hs (PySem.W.osa_open (s:={ s with toks:=s.toks+1 }) (r:=none) X J hp ht λb=>?_)
 obtain⟨cd,hc,hd'⟩:=PySem.W.any_some hh
 have hx:s.heap.get? x=some ⟨.ref C,some dx,.plain,#[]⟩:=I.obj
 refine wpAny_bind (wpAny_pure (wpAny_bind (wpAny_bind (wpAny_loadPart hx (wpAny_bind (PySem.W.Looks.here (s:={ s with toks:=s.toks+1 }) (PySem.W.looks_clsIn X hc) ?_))))))
 rw[hd']
 refine wpAny_pure (a:=some dx) (wpAny_bind (wpAny_pure (wpAny_bind ?_)))
 refine wpAny_nsSet1 (s:={ s with toks:=s.toks+1 }) I.ns λh' hn2 hs2=>?_
 obtain⟨oD,esD,Us,My,MH,MI⟩:=hn2.count (PySem.Within.cons name v hw)
 refine wpAny_bind (wpAny_lookBehind My (by rw[MH];exact pastItsLine_dict (Nat.le_trans MI (by rw[List.length_cons];omega))) ?_)
 exact wpAny_pure (h _ ⟨(hs2.2 _ (Ne.symm I.ne)).trans I.obj,hn2,I.ne⟩ hs2)
theorem EW{R:Result->Shared->Prop}{vs:List Value}{kw:List (Str×Value)}(X:K.In s.heap)(hm:PySem.W.makesIn K C=true)
  (hi:PySem.W.findIn K (.ref C) "__init__" =some (some (.ref f))) (hf:PySem.W.typeIn K (.ref f)=some (.type "function"))
  (h:codeAny (model prog w) (A.under (.builtin "type.__call__" ⟨.ref C::vs,kw⟩)) (.call (.ref f) ⟨.ref (s.heap.objs.size+1)::vs,kw⟩) (PySem.W.InitBack (s.heap.objs.size+1) R)
   { s with heap:=(s.heap.push PySem.W.emptyDict).push (PySem.W.instObj C s.heap.objs.size) }) :
  codeAny (model prog w) A (.call (.ref C) ⟨vs,kw⟩) R s:=by
 obtain⟨hh,g,d,t,os⟩:=s
 exact PySem.W.make_core (PySem.W.makes_of X hm) (PySem.W.looks_findIn X hi) (λself=>PySem.W.bind_fn X self hf) (.inl rfl) h
end
def aJ(f:Str)(v:V):List (Str×V)->List (Str×V)
 |[]=>[(f,v)]
 |(g,x)::r=>if g=f then(g,v)::r else(g,x)::aJ f v r
theorem ao(f g:Str)(v:V):∀fs:List (Str×V),(aJ f v fs).lookup g=if g=f then some v else fs.lookup g
 |[]=>by
  show List.lookup g [(f,v)]=_
  by_cases h:g=f
  ·have hb:(g==f)=true:=beq_iff_eq.mpr h
   simp only[List.lookup,hb,if_pos h]
  ·have hb:(g==f)=false:=beq_eq_false_iff_ne.mpr h
   simp only[List.lookup,hb,if_neg h]
 |(k,x)::r=>by
  have ih:=ao f g v r
  rw[show aJ f v ((k,x)::r)=(if k=f then(k,v)::r else(k,x)::aJ f v r) from rfl]
  by_cases hk:k=f
  ·rw[if_pos hk]
   by_cases h:g=k
   ·have hb:(g==k)=true:=beq_iff_eq.mpr h
    simp only[List.lookup,hb,if_pos (h.trans hk)]
   ·have hb:(g==k)=false:=beq_eq_false_iff_ne.mpr h
    simp only[List.lookup,hb,if_neg (λe:g=f=>h (e.trans hk.symm))]
  ·rw[if_neg hk]
   by_cases h:g=k
   ·have hb:(g==k)=true:=beq_iff_eq.mpr h
    simp only[List.lookup,hb,if_neg (λe:g=f=>hk (h.symm.trans e))]
   ·have hb:(g==k)=false:=beq_eq_false_iff_ne.mpr h
    simp only[List.lookup,hb]
    exact ih
theorem lG(f:Str)(v:V):∀fs:List (Str×V),f∈(aJ f v fs).map (·.1)/\∀g,g∈fs.map (·.1)->g∈(aJ f v fs).map (·.1)
 |[]=>⟨by simp[aJ],λg h=>by simp at h⟩
 |(k,x)::r=>by
  obtain⟨i1,i2⟩:=lG f v r
  rw[show aJ f v ((k,x)::r)=(if k=f then(k,v)::r else(k,x)::aJ f v r) from rfl]
  by_cases hk:k=f
  ·rw[if_pos hk]
   subst hk
   exact⟨by simp,λg h=>by simpa using h⟩
  ·rw[if_neg hk]
   refine⟨?_,λg h=>?_⟩
   ·rw[List.map_cons]
    exact List.mem_cons_of_mem _ i1
   ·rw[List.map_cons]at h ⊢
    rcases List.mem_cons.mp h with e|e
    ·exact List.mem_cons.mpr (.inl e)
    ·exact List.mem_cons_of_mem _ (i2 g e)
theorem nu(f:Str)(v:V):∀fs:List (Str×V),(aJ f v fs).length<=fs.length+1
 |[]=>by simp[aJ]
 |(k,x)::r=>by
  have ih:=nu f v r
  rw[show aJ f v ((k,x)::r)=(if k=f then(k,v)::r else(k,x)::aJ f v r) from rfl]
  by_cases hk:k=f
  ·rw[if_pos hk,List.length_cons,List.length_cons];omega
  ·rw[if_neg hk,List.length_cons,List.length_cons];omega
theorem pK.some_of{v:V}{o:Option Value}(r:pK (some v) o):∃u,o=some u/\RelV v u:=by
 cases o with
 |none=>exact(show False from r).elim
 |some u=>exact⟨u,rfl,r⟩
theorem Du{v:V}{u:Value}(r:RelV v u):PySem.W.handedIn u=true:=by
 cases v with
 |gx=>cases (show u=Value.none from r);rfl
 |bl b=>cases (show u=Value.bool b from r);rfl
 |int i=>obtain⟨t,e⟩:=(show ∃t,u=Value.int i t from r);cases e;rfl
 |str x=>obtain⟨t,e⟩:=(show ∃t,u=Value.str x t from r);cases e;rfl
 |Cw b=>obtain⟨t,e⟩:=(show ∃t,u=Value.bytes b t from r);cases e;rfl
 |Kv b=>obtain⟨t,e⟩:=(show ∃t,u=Value.float b t from r);cases e;rfl
 |ref a=>cases (show u=Value.ref a from r);rfl
 |ty n=>cases (show u=Value.type n from r);rfl
section
variable{P:Program}{w:World}{H H':Hp}{h h':Heap}{a C dx:Addr}{fs fs':List (Str×V)}
theorem sQ(hok:lg P w H h)(e:H a=some (.ins C dx fs)):∃mA,DH h a dx C mA/\(∀f,pK (fs.lookup f) (mA f))/\PySem.Within mA (fs.map (·.1))/\fs.length<=1000/\H dx=some (.own a):=by
 obtain⟨d,z,ne,ob,mA,n,r,q⟩:=(show b8 P w H h a (.ins C dx fs) from hok a _ e)
 exact⟨mA,⟨ob,n,ne⟩,r,q,z,d⟩
end
structure Iz(K:PySem.W.Frag)(C:Addr):Prop where
 pg:PySem.W.plainGet K C Str.empty=true
 hd:PySem.W.hasDictIn K C=true
 po:PySem.W.plainOver K C=true
 sa:PySem.W.findIn K (.ref C) "__setattr__" =some (some (.builtin "object.__setattr__"))
theorem Iz.get{K:PySem.W.Frag}{C:Addr}(c:Iz K C)(f:Str):PySem.W.plainGet K C f=true:=c.pg
def cV(K:PySem.W.Frag)(C:Addr)(f:Str):Prop:=PySem.W.findIn K (.ref C) f=some none
theorem cV.Eb{K:PySem.W.Frag}{C:Addr}{f:Str}(n:cV K C f):PySem.W.takerIn K C f=some none:=by
 unfold PySem.W.takerIn
 rw[show PySem.W.findIn K (.ref C) f=some none from n]
 rfl
section
variable{X:Cx}{pins:List (Addr×Obj)}{σ:St}{H:Hp}{s:Shared}{a C dx:Addr}{fs:List (Str×V)}{f:Str}{v:V}{A:Around}{E:Value->Shared->Prop}
theorem A2{b:Bool}{Q:Value->Shared->Prop}(I:Inv X pins σ H s)(e:H a=some (.ins C dx fs))(c:Iz X.K C)(n:cV X.K C f)(l:fs.lookup f=some v)
  (h:∀u s',Inv X pins σ H s'->RelV v u->Q u s'):wpAny (model X.prog X.w) A (getAttr (.ref a) f b) Q E s:=by
 obtain⟨mA,O,r,_,_,_⟩:=sQ I.hok e
 obtain⟨u,hu,ru⟩:=pK.some_of (v:=v) (o:=mA f) (by rw[←l];exact r f)
 exact get_map I.kK O (c.get f) c.hd n hu (Du ru) (h u _ (I.tok _) ru)
theorem Am{y:V}{u:Value}{Q:Unit->Shared->Prop}(I:Inv X pins σ H s)(e:H a=some (.ins C dx fs))(c:Iz X.K C)(n:cV X.K C f)(hl:fs.length<1000)(ry:RelV y u)
  (h:∀s',Inv X pins σ (upd H a (.ins C dx (aJ f y fs))) s'->Q () s'):wpAny (model X.prog X.w) A (setAttr (.ref a) f u) Q E s:=by
 obtain⟨mA,O,r,wi,_,ho⟩:=sQ I.hok e
 have hz:(fs.map (·.1)).length<=sizeLine:=by rw[List.length_map,sizeLine_eq];omega
 refine nQ I.kK O c.sa c.po n.Eb c.hd wi hz λh' O' sb=>h _ ?_
 have hd:∃o,h'.get? dx=some o:=let ⟨o,_,_,e',_⟩:=O'.ns;⟨o,e'⟩
 refine I.write (x:=a) (e:=dx) (by rw[e];exact True.intro) (.inr ho) (λb q hb z=>(sb.2 b hb).trans z) hd ?_
 refine⟨by rw[az O.ne];exact ho,?_,O.ne,O'.obj,_,O'.ns,λg=>?_,λg hg=>?_⟩
 ·have:=nu f y fs;omega
 ·show pK ((aJ f y fs).lookup g) (if g=f then some u else mA g)
  rw[ao]
  by_cases q:g=f
  ·rw[if_pos q,if_pos q];exact ry
  ·rw[if_neg q,if_neg q];exact r g
 ·by_cases q:g=f
  ·rw[q];exact(lG f y fs).1
  ·refine(lG f y fs).2 g (wi g λz=>hg ?_)
   show(if g=f then some u else mA g)=none
   rw[if_neg q];exact z
theorem Inv.made(I:Inv X pins σ H s):Inv X pins σ (upd (upd H s.heap.objs.size (.own (s.heap.objs.size+1))) (s.heap.objs.size+1) (.ins C s.heap.objs.size []))
  { s with heap:=(s.heap.push PySem.W.emptyDict).push (PySem.W.instObj C s.heap.objs.size) }:=by
 have e1:(s.heap.push PySem.W.emptyDict).get? s.heap.objs.size=some PySem.W.emptyDict:=Heap.get?_push_size s.heap rfl
 have e2:((s.heap.push PySem.W.emptyDict).push (PySem.W.instObj C s.heap.objs.size)).get? (s.heap.objs.size+1)=some (PySem.W.instObj C s.heap.objs.size):=by
  have:=Heap.get?_push_size (s.heap.push PySem.W.emptyDict) (o:=PySem.W.instObj C s.heap.objs.size) rfl
  rwa [Heap.size_push]at this
 have e3:(s.heap.push PySem.W.emptyDict).Ns s.heap.objs.size (λ_=>none):=⟨PySem.W.emptyDict,#[],_,e1,rfl,(λe he=>absurd he (by simp)),λ_=>rfl⟩
 have I1:=I.laid (a:=s.heap.objs.size) (o:=.own (s.heap.objs.size+1)) (h':=s.heap.push PySem.W.emptyDict) (t':=s.toks) (λb u q=>Heap.get?_push_of_some _ q) (Nat.le_refl _) ⟨_,e1⟩
 refine I1.laid (a:=s.heap.objs.size+1) (o:=.ins C s.heap.objs.size []) (t':=s.toks) (λb u q=>Heap.get?_push_of_some _ q) (Nat.le_of_eq (Heap.size_push _ _)) ?_
 have ne:s.heap.objs.size≠s.heap.objs.size+1:=Nat.ne_of_lt (Nat.lt_succ_self _)
 refine⟨by rw[az ne,af],Nat.zero_le _,ne,e2,λ_=>none,(Heap.Ns1.of_empty e3).at λo q=>Heap.get?_push_of_some _ q,λ_=>True.intro,λy hy=>absurd rfl hy⟩
theorem CD{prog:Program}{w:World}{env:Env}{e:Expr}{f:Str}{pos:Pos}{s:Shared}{Q:Value->Shared->Prop}(hb:attributeBase e f env (eval e env)=eval e env)
  (h:wpAny (model prog w) A (eval e env) (λo s₁=>wpAny (model prog w) A (getAttr o f true) Q E s₁) E s):wpAny (model prog w) A (eval (.Attribute e f pos) env) Q E s :=
 Attribute_any_ h (by rw[arm_eval_Attribute,hb])
end
def Qu(K:PySem.W.Frag)(ta:TE)(f:Str):TE:=λσ H Q=>ta σ H λx H1=>∃a C dx fs v,x= .ref a/\H1 a=some (.ins C dx fs)/\Iz K C/\cV K C f/\fs.lookup f=some v/\Q v H1
def QD(K:PySem.W.Frag)(ta tv:TE)(f:Str):TS:=λD σ H=>tv σ H λy H1=>ta σ H1 λx H2=>∃a C dx fs,x= .ref a/\H2 a=some (.ins C dx fs)/\Iz K C/\cV K C f/\fs.length<1000 ∧
 D.nx σ (upd H2 a (.ins C dx (aJ f y fs)))
section
variable{X:Cx}{o e value:Expr}{f:Str}{pos pos' tpos:Pos}{ta tv:TE}
theorem fP(he:PE X e ta)(hb:attributeBase e f X.env (eval e X.env)=eval e X.env):PE X (.Attribute e f pos) (Qu X.K ta f):=by
 intro pins s σ H Q I h
 refine CD hb (fK (he pins s σ H _ I h) λu s1 ⟨x,H1,I1,rx,a,C,dx,fs,v,ex,ea,c,n,l,q⟩=>?_)
 subst ex
 obtain rfl:u=Value.ref a:=rx
 exact A2 I1 ea c n l λu' s2 I2 ru=>⟨v,H1,I2,ru,q⟩
theorem lS(ha:PE X o ta)(hv:PE X value tv)(hs:swapsWith value (some (.Attribute o f pos')) pos.line X.env=pure false):PS X (.Assign [.Attribute o f pos'] value pos) (QD X.K ta tv f):=by
 intro pins s σ H D I h
 refine plainObj_wpAny_Assign_Attribute (fK (hv pins s σ H _ I h) λu s1 ⟨y,H1,I1,ry,q⟩=>fK (ha pins s1 σ H1 _ I1 q) λov s2 ⟨x,H2,I2,rx,a,C,dx,fs,ex,ea,c,n,l,q2⟩=>?_) hs
 subst ex
 obtain rfl:ov=Value.ref a:=rx
 exact Am I2 ea c n l ry λs3 I3=>⟨σ,_,I3,q2⟩
end
section
variable{X:Cx}{pins:List (Addr×Obj)}{σ:St}{H:Hp}{s:Shared}{A:Around}{E:Value->Shared->Prop}{Q:Value->Shared->Prop}{c:Value}{b:Bool}
inductive pJ(K:PySem.W.Frag)(H:Hp):V->Value->Prop where
 |gx:pJ K H .gx (.type "NoneType")
 |bl (x:Bool):pJ K H (.bl x) (.type "bool")
 |int (i:Int):pJ K H (.int i) (.type "int")
 |str (x:Str):pJ K H (.str x) (.type "str")
 |Kv (x:UInt64):pJ K H (.Kv x) (.type "float")
 |lst {a:Addr} {xs:List V} (e:H a=some (.lst xs)):pJ K H (.ref a) (.type "list")
 |A4 {a:Addr} {o:Obj} {xs:List V} (e:H a=some (.A4 o (.lst xs))):pJ K H (.ref a) (.type "list")
 |tup {a:Addr} {xs:List V} (e:H a=some (.tup xs)):pJ K H (.ref a) (.type "tuple")
 |dK {a:Addr} {kvs:List (Key×V)} (e:H a=some (.dK kvs)):pJ K H (.ref a) (.type "dict")
 |dT {a:Addr} {kvs:List (List Key×V)} (e:H a=some (.dT kvs)):pJ K H (.ref a) (.type "dict")
 |ins {a C dx:Addr} {fs:List (Str×V)} (e:H a=some (.ins C dx fs)) (cl:Iz K C) (ha:PySem.W.findIn K (.ref C) "__class__" =some (some (.builtin "object.__class__")))
   (hn:PySem.W.specialIn K (.builtin "object.__class__") "__get__" =some (some (.builtin "getset_descriptor.__get__"))) (htk:PySem.W.takesIn K (.builtin "object.__class__")=some true)
   (hm:PySem.W.mroIn K C (.type "object")=some true):pJ K H (.ref a) (.ref C)
theorem vX{x:V}{u t:Value}(I:Inv X pins σ H s)(rx:RelV x u)(ty:pJ X.K H x t)(e:PySem.W.kitOne X.K t c=some b)(h:∀tk,Q (.bool b) { s with toks:=tk }):
  wpAny (model X.prog X.w) A (call (.builtin "isinstance") [u,c]) Q E s:=by
 cases ty with
 |gx=>cases (show u=Value.none from rx);exact PySem.W.kia_one PySem.W.kitx_none I.kK True.intro e (λz=>nomatch z) h
 |bl y=>cases (show u=Value.bool y from rx);exact PySem.W.kia_one PySem.W.kitx_bool I.kK True.intro e (λz=>nomatch z) h
 |int i=>obtain⟨t,q⟩:=(show ∃t,u=Value.int i t from rx);cases q;exact PySem.W.kia_one PySem.W.kitx_int I.kK True.intro e (λz=>nomatch z) h
 |str y=>obtain⟨t,q⟩:=(show ∃t,u=Value.str y t from rx);cases q;exact PySem.W.kia_one PySem.W.kitx_str I.kK True.intro e (λz=>nomatch z) h
 |Kv y=>obtain⟨t,q⟩:=(show ∃t,u=Value.float y t from rx);cases q;exact PySem.W.kia_one PySem.W.kitx_float I.kK True.intro e (λz=>nomatch z) h
 | @lst a xs ea =>
  cases (show u=Value.ref a from rx)
  obtain⟨_,_,n,_,h1⟩:=(show b8 X.prog X.w H s.heap a (.lst xs) from I.hok a _ ea)
  exact PySem.W.kia_one PySem.W.kitx_list I.kK ⟨_,h1,rfl⟩ e (λz=>nomatch z) h
 | @A4 a ob xs ea =>
  cases (show u=Value.ref a from rx)
  obtain⟨_,_,_,n,_,h1⟩:=(show b8 X.prog X.w H s.heap a (.A4 ob (.lst xs)) from I.hok a _ ea)
  exact PySem.W.kia_one PySem.W.kitx_list I.kK ⟨_,h1,rfl⟩ e (λz=>nomatch z) h
 | @tup a xs ea =>
  cases (show u=Value.ref a from rx)
  obtain⟨_,_,_,p⟩:=(show b8 X.prog X.w H s.heap a (.tup xs) from I.hok a _ ea)
  obtain⟨o,h1,h2,_⟩:=p
  exact PySem.W.kia_one PySem.W.kitx_tuple I.kK ⟨o,h1,h2⟩ e (λz=>nomatch z) h
 | @dK a kvs ea =>
  cases (show u=Value.ref a from rx)
  obtain⟨_,_,vs,_,p⟩:=(show b8 X.prog X.w H s.heap a (.dK kvs) from I.hok a _ ea)
  obtain⟨o,es,ep,h1,h2,_⟩:=p
  exact PySem.W.kia_one PySem.W.kitx_dict I.kK ⟨o,h1,h2.1⟩ e (λz=>nomatch z) h
 | @dT a kvs ea =>
  cases (show u=Value.ref a from rx)
  obtain⟨_,_,xs,_,o,es,ep,h1,h2,_⟩:=(show b8 X.prog X.w H s.heap a (.dT kvs) from I.hok a _ ea)
  exact PySem.W.kia_one PySem.W.kitx_dict I.kK ⟨o,h1,h2.1⟩ e (λz=>nomatch z) h
 | @ins a C dx fs ea cl ha hn htk hm =>
  cases (show u=Value.ref a from rx)
  obtain⟨mA,O,_⟩:=sQ I.hok ea
  obtain⟨od,J,_⟩:=O.look
  exact PySem.W.kia_one (PySem.W.kitx_own (cl.get _) cl.hd ha hn htk hm) I.kK J e (λz=>nomatch z) h
end
end L2
namespace L2
open PySem PySem.Spec PyProof.Rows
structure jd(k:Nat)(A:Around):Prop where
 hd:A.handled=none
 dp:A.depth+3*k+5<recursionLimit
 un:A.units+16*k+200<cLine
theorem jd.mono{j k:Nat}{A:Around}(r:jd k A)(h:j<=k):jd j A:=⟨r.hd,by have:=r.dp;omega,by have:=r.un;omega⟩
theorem jd.deeper{k:Nat}{A:Around}(r:jd (k+1) A)(env:Env):jd k (A.deeper env) :=
 ⟨r.hd,by have:=r.dp;show A.depth+1+3*k+5<_;omega,by have:=r.un;show A.units+3+16*k+200<_;omega⟩
theorem ue{A:Around}{C:Addr}{us:List Value}{kw:List (Str×Value)}:(A.under (.builtin "type.__call__" ⟨.ref C::us,kw⟩)).depth=A.depth+1:=by
 first|rfl|simp[Around.under,Code.weight,Code.isCreation,Code.isGuard,Code.isCaller,Code.frames,Code.isFrame,guardIds]
theorem ud{A:Around}{C:Addr}{us:List Value}{kw:List (Str×Value)}:(A.under (.builtin "type.__call__" ⟨.ref C::us,kw⟩)).units=A.units+1:=by
 first|rfl|simp[Around.under,Code.cUnits,Code.frames,Code.isFrame]
theorem jd.make{k:Nat}{A:Around}(r:jd (k+1) A)(C:Addr)(us:List Value)(kw:List (Str×Value)):jd k (A.under (.builtin "type.__call__" ⟨.ref C::us,kw⟩)) :=
 ⟨r.hd,by have:=r.dp;rw[ue];omega,by have:=r.un;rw[ud];omega⟩
theorem jd.depth{k:Nat}{A:Around}(r:jd k A):A.depth<recursionLimit:=by have:=r.dp;omega
theorem jd.units{k:Nat}{A:Around}(r:jd k A):A.units+64<cLine:=by have:=r.un;omega
def Ji:TA:=λ_ H Q=>Q [] H
def Bq(ta:TE)(tr:TA):TA:=λσ H Q=>ta σ H λx H1=>tr σ H1 λxs H2=>Q (x::xs) H2
section
variable{X:Cx}{e:Expr}{es:List Expr}{te:TE}{t:TA}{pos:Pos}
theorem ah:PA X [] Ji:=λ_ _ _ _ H Q I h=>Calls.spliced_nil ⟨[],H,I,.nil,h⟩
theorem aa(ha:PE X e te)(hr:PA X es t)(hs:starEach (e::es) X.env=(false,eval e X.env)::starEach es X.env:=by rfl):PA X (e::es) (Bq te t):=by
 intro pos pins s σ H Q I h
 rw[hs]
 show wpAny _ _ (spliced ((false,eval e X.env)::backTo pos (starEach es X.env))) _ _ s
 refine Calls.spliced_cons (fK (ha pins s σ H _ I h) λu s1 ⟨x,H1,I1,r1,q1⟩=>?_)
 exact fK (hr pos pins s1 σ H1 _ I1 q1) λus s2 ⟨xs,H2,I2,r2,q2⟩=>⟨x::xs,H2,I2,.cons r1 r2,q2⟩
def Qj(t:TA):TE:=λσ H Q=>t σ H λxs H1=>xs.length<=sizeLine/\∀p,H1 p=none->Q (.ref p) (upd H1 p (.tup xs))
def Qq(t:TA):TE:=λσ H Q=>t σ H λxs H1=>xs.length<=sizeLine/\∀p,H1 p=none->Q (.ref p) (upd H1 p (.lst xs))
theorem cU{x1}(h:PA X es t):PE X (.Tuple es x1 pos) (Qj t):=by
 intro pins s σ H Q I hq
 refine wpAny_Tuple_spliced (fK (h pos pins s σ H _ I hq) λus s1 ⟨xs,H1,I1,r,z,q⟩=>⟨by rw[←r.length];exact z,?_⟩)
 have hf:H1 s1.heap.objs.size=none:=I1.hok.fresh (Nat.le_refl _)
 refine⟨.ref s1.heap.objs.size,upd H1 s1.heap.objs.size (.tup xs),I1.laid (t':=s1.toks) (λb u e=>Heap.get?_push_of_some _ e) (Nat.le_refl _) ?_,rfl,q _ hf⟩
 exact⟨z,us,r,⟨_,Heap.get?_push_size _ rfl,rfl,_,rfl⟩⟩
theorem fk(h:PA X es t):PE X (.List es pos) (Qq t):=by
 intro pins s σ H Q I hq
 refine wpAny_List_spliced (fK (h pos pins s σ H _ I hq) λus s1 ⟨xs,H1,I1,r,z,q⟩=>⟨by rw[←r.length];exact z,?_⟩)
 have hf:H1 s1.heap.objs.size=none:=I1.hok.fresh (Nat.le_refl _)
 refine⟨.ref s1.heap.objs.size,upd H1 s1.heap.objs.size (.lst xs),I1.laid (t':=s1.toks) (λb u e=>Heap.get?_push_of_some _ e) (Nat.le_refl _) ?_,rfl,q _ hf⟩
 exact⟨z,us,0,r,Heap.get?_push_size _ rfl⟩
end
abbrev Sp:=List V->Hp->VK->XK->Prop
abbrev yu:=List Env->Hp->Shared->XK->Value->Shared->Prop
structure yl(P:Program)(w:World)(K:PySem.W.Frag)(mg:Str->Option Value)(base:Heap)(A:Around)(outer:List Env)(s:Shared)(H:Hp):Prop where
 frames:A.frames=some outer
 mod:Mod K mg base
 bs:∀b o,base.get? b=some o->s.heap.get? b=some o/\H b=none
 DQ:base.objs.size<=s.heap.objs.size
 oj:s.heap.FunFrames base outer
 F6:∀b∈frs outer,H b=none
 hok:lg P w H s.heap
 bare:AllBare s.gens
 tk:zP mg s.toks
def CE(outer:List Env)(P:Program)(w:World)(H:Hp)(s:Shared)(Q:VK)(u:Value)(s':Shared):Prop :=
 ∃v H',s'.os=s.os/\AllBare s'.gens/\Un (frs outer) [] H H' s.heap s'.heap/\lg P w H' s'.heap/\RelV v u/\s.toks<=s'.toks/\Q v H'
def CR(CX:yu)(outer:List Env)(P:Program)(w:World)(H:Hp)(s:Shared)(Q:VK)(E:XK)(r:Result)(s':Shared):Prop :=
 match r with
 | .ok (.ret u)=>CE outer P w H s Q u s'
 | .ok _=>False
 | .error e=>CX outer H s E e s'
structure aW(P:Program)(w:World)(K:PySem.W.Frag)(mg:Str->Option Value)(base:Heap)(CX:yu)(k:Nat)(f:Addr)(fd:FuncData)(ps:List Str)(sp:Sp):Prop where
 len:∀vs H Q E,sp vs H Q E->vs.length=ps.length
 run:∀(A:Around) (outer:List Env) (s:Shared) (H:Hp) (args:Args) (us:List Value) (vs:List V) (Q:VK) (E:XK),jd k A->yl P w K mg base A outer s H->BindsTo s fd args (ps.zip us)->Vals vs us->sp vs H Q E →
  codeAny (model P w) A (.call (.ref f) args) (CR CX outer P w H s Q E) s
theorem yl.make{P:Program}{w:World}{K:PySem.W.Frag}{mg:Str->Option Value}{base:Heap}{A:Around}{outer:List Env}{s:Shared}{H:Hp}(e:yl P w K mg base A outer s H)(C:Addr)(us:List Value)(kw:List (Str×Value)):
  yl P w K mg base (A.under (.builtin "type.__call__" ⟨.ref C::us,kw⟩)) outer s H:=⟨by first|exact e.frames|(simpa[Around.under,Code.envs,Code.isFrame,pushEnvs]using e.frames),e.mod,e.bs,e.DQ,e.oj,e.F6,e.hok,e.bare,e.tk⟩
section
variable{X:Cx}{pins:List (Addr×Obj)}{σ:St}{H:Hp}{s s':Shared}
theorem Inv.FE(I:Inv X pins σ H s):yl X.prog X.w X.K X.mg X.base X.A X.stack s H :=
 ⟨I.ok.frames,I.ok.mod,I.bs,Nat.le_trans I.ok.DQ I.sz,I.stack,I.sM,I.hok,I.bare,I.tk⟩
theorem Inv.after{Q:VK}{u:Value}(I:Inv X pins σ H s)(h:CE X.stack X.prog X.w H s Q u s'):EP X pins σ Q u s':=by
 obtain⟨v,H',os,bare,un,hok,r,tt,q⟩:=h
 obtain⟨hh,g,d,t,os'⟩:=s'
 obtain rfl:os'=s.os:=os
 exact⟨v,H',I.call (h':=hh) (g':=g) (d':=d) (t':=t) (ch:=[]) un hok bare (λb z=>absurd z (by simp)) (Nat.le_trans I.up tt),r,q⟩
end
def Lp(sp:Sp)(uR:List V)(E:XK)(t:TA):TE:=λσ H Q=>t σ H λvs H1=>sp (vs++uR) H1 Q E
def Lm(C:Addr)(sp:Sp)(uR:List V)(E:XK)(t:TA):TE:=λσ H Q=>t σ H λvs H1=>∀x dx,H1 x=none->H1 dx=none->dx≠x →
 sp (.ref x::(vs++uR)) (upd (upd H1 dx (.own x)) x (.ins C dx [])) (λv H2=>v= .gx/\Q (.ref x) H2) E
def Binds(K:PySem.W.Frag)(fd:FuncData)(ps:List Str)(ds:List Value):Prop :=
 ∀(s:Shared) (us:List Value),K.In s.heap->(us++ds).length=ps.length->BindsTo s fd ⟨us,[]⟩ (ps.zip (us++ds))
theorem Binds.all{K:PySem.W.Frag}{fd:FuncData}{ps:List Str}(h:∀us:List Value,us.length=ps.length->bindArgs fd ⟨us,[]⟩=pure (ps.zip us)):Binds K fd ps []:=λs us _ hl=>by
 rw[List.append_nil]at hl ⊢
 exact .of_eq (h us hl)
def Passes(CX:yu)(X:Cx)(E:XK):Prop:=∀(pins:List (Addr×Obj)) (σ:St) (H:Hp) (s:Shared) (e:Value) (s':Shared),Inv X pins σ H s->CX X.stack H s E e s'->X.xe e s'
section
variable{X:Cx}{CX:yu}{k:Nat}{f C:Addr}{fd:FuncData}{ps:List Str}{sp:Sp}{uR:List V}{ds:List Value}{E:XK}{x m:Str}{p pos apos:Pos}{e o:Expr}{es:List Expr}{ta:TE}{t:TA}
theorem Ju{pins:List (Addr×Obj)}{σ:St}{H:Hp}{s:Shared}{Q:VK}{us:List Value}{vs:List V}(F:aW X.prog X.w X.K X.mg X.base CX k f fd ps sp)(hr:jd k X.A)(hb:Binds X.K fd ps ds)(hd:Vals uR ds)(hx:Passes CX X E)
  (I:Inv X pins σ H s) (r:Vals vs us) (h:sp (vs++uR) H Q E):wpAny (model X.prog X.w) X.A (call (.ref f) us) (EP X pins σ Q) X.xe s:=by
 have r2:Vals (vs++uR) (us++ds):=r.append hd
 have hl:(us++ds).length=ps.length:=by rw[←r2.length];exact F.len _ _ _ _ h
 refine wpAny_call (codeAny_mono (F.run X.A X.stack s H ⟨us,[]⟩ (us++ds) (vs++uR) Q E hr I.FE (hb s us I.kK hl) r2 h) λr s' hq=>?_)
 cases r with
 |error e=>exact hx pins σ H s e s' I hq
 |ok fl =>
  cases fl with
  |ret u=>exact I.after hq
  |next=>exact False.elim hq
  |brk=>exact False.elim hq
  |cont=>exact False.elim hq
theorem aD(F:aW X.prog X.w X.K X.mg X.base CX k f fd ps sp)(hr:jd k X.A)(hg:Gl X x)(hm:X.mg x=some (.ref f))(hk:PySem.W.keepIn X.K (.ref f)=true)(hb:Binds X.K fd ps ds)(hd:Vals uR ds)(hx:Passes CX X E)
  (ha:PA X (e::es) t) (hdb:(x==("__debug__" :Str))=false:=by decide) (he:starEach (e::es) X.env=(false,eval e X.env)::starEach es X.env:=by rfl) (hpl:(backTo pos (starEach es X.env)).any (·.1)=false:=by rfl) :
  PE X (.Call (.Name x p) (e::es) [] pos) (Lp sp uR E t):=by
 intro pins s σ H Q I h
 refine wpAny_Call_Name_kw (jA I hg hm ?_ hdb)
 refine PySem.W.callWith_K (h₀:=X.base) I.ok.mod.E8 hk (fK (ha pos pins s σ H _ I h) λus s1 ⟨vs,H1,I1,r,q⟩=>⟨I1.kK,?_⟩) he hpl
 exact Ju F hr hb hd hx I1 r q
structure Mk(K:PySem.W.Frag)(C f:Addr):Prop where
 makes:PySem.W.makesIn K C=true
 init:PySem.W.findIn K (.ref C) "__init__" =some (some (.ref f))
 fn:PySem.W.isFn K (.ref f)=true
 kp:PySem.W.keepIn K (.ref C)=true
theorem Ex{pins:List (Addr×Obj)}{σ:St}{H:Hp}{s:Shared}{Q:VK}{us:List Value}{vs:List V}(M:Mk X.K C f)(F:aW X.prog X.w X.K X.mg X.base CX k f fd ps sp)(hr:jd (k+1) X.A)(hb:Binds X.K fd ps ds)(hd:Vals uR ds)
  (hx:Passes CX X E) (I:Inv X pins σ H s) (r:Vals vs us)
  (h:∀x dx,H x=none->H dx=none->dx≠x->sp (.ref x::(vs++uR)) (upd (upd H dx (.own x)) x (.ins C dx [])) (λv H2=>v= .gx/\Q (.ref x) H2) E) :
  wpAny (model X.prog X.w) X.A (call (.ref C) us) (EP X pins σ Q) X.xe s:=by
 have hq:=h (s.heap.objs.size+1) s.heap.objs.size (I.hok.fresh (Nat.le_succ _)) (I.hok.fresh (Nat.le_refl _)) (Nat.ne_of_lt (Nat.lt_succ_self _))
 have I2:=Inv.made (C:=C) I
 have r2:Vals (V.ref (s.heap.objs.size+1)::(vs++uR)) (Value.ref (s.heap.objs.size+1)::(us++ds)):=.cons rfl (r.append hd)
 have hl:(Value.ref (s.heap.objs.size+1)::us++ds).length=ps.length:=by
  have e:=r2.length
  rw[F.len _ _ _ _ hq]at e
  exact e.symm
 refine wpAny_call (EW (f:=f) I.kK M.makes M.init (beq_iff_eq.mp M.fn) (codeAny_mono (F.run _ X.stack _ _ ⟨Value.ref (s.heap.objs.size+1)::us,[]⟩ (Value.ref (s.heap.objs.size+1)::(us++ds)) _ _ E (hr.make C us [])
  (I2.FE.make C us []) (hb _ (Value.ref (s.heap.objs.size+1)::us) I2.kK hl) r2 hq) λr s' hq'=>?_))
 cases r with
 |error e=>exact hx pins σ _ _ e s' I2 hq'
 |ok fl =>
  cases fl with
  |ret u =>
   obtain⟨v,H',I3,rv,ev,q3⟩:=I2.after hq'
   subst ev
   exact⟨rv,⟨V.ref (s.heap.objs.size+1),H',I3,rfl,q3⟩⟩
  |next=>exact False.elim hq'
  |brk=>exact False.elim hq'
  |cont=>exact False.elim hq'
theorem BO(M:Mk X.K C f)(F:aW X.prog X.w X.K X.mg X.base CX k f fd ps sp)(hr:jd (k+1) X.A)(hg:Gl X x)(hm:X.mg x=some (.ref C))(hb:Binds X.K fd ps ds)(hd:Vals uR ds)(hx:Passes CX X E)
  (ha:PA X (e::es) t) (hdb:(x==("__debug__" :Str))=false:=by decide) (he:starEach (e::es) X.env=(false,eval e X.env)::starEach es X.env:=by rfl) (hpl:(backTo pos (starEach es X.env)).any (·.1)=false:=by rfl) :
  PE X (.Call (.Name x p) (e::es) [] pos) (Lm C sp uR E t):=by
 intro pins s σ H Q I h
 refine wpAny_Call_Name_kw (jA I hg hm ?_ hdb)
 refine PySem.W.callWith_K (h₀:=X.base) I.ok.mod.E8 M.kp (fK (ha pos pins s σ H _ I h) λus s1 ⟨vs,H1,I1,r,q⟩=>⟨I1.kK,?_⟩) he hpl
 exact Ex M F hr hb hd hx I1 r q
end
section
variable{X:Cx}{CX:yu}{k:Nat}{f C:Addr}{fd:FuncData}{ps ks:List Str}{sp:Sp}{E:XK}{x m:Str}{p pos apos kpos:Pos}{e o:Expr}{es:List Expr}{kws:List Keyword}{te ta:TE}{t tk:TA}{nm:Option Str}
variable{g:List Value->List Value->List Value}{gV:List V->List V->List V}
end
structure aP(N P:List Str)(sc:Scope):Prop where
 kind:sc.kind= .function
 co:sc.isCoroutine=false
 gen:sc.isGenerator=false
 nd:N.Nodup
 pre:N.take P.length=P
 par:∀x∈P,sc.names.lookup x=some .local\/sc.names.lookup x=some .cell
 ER:∀y∈sc.names,y.2≠ .free
theorem wB{kindOf:Str->Option NameKind}{x:Str}:∀{binds:List (Str×Value)} {m:Str->Option Value},(∀v,(x,v)∉binds)->bindL kindOf binds m x=m x
 |[],_,_=>rfl
 |(n,v)::r,m,h=>by
  unfold bindL
  rw[wB λw hw=>h w (List.mem_cons_of_mem _ hw)]
  split
  ·have:x≠n:=by rintro rfl;exact h v List.mem_cons_self
   simp[this]
  ·rfl
theorem wC{kindOf:Str->Option NameKind}{x:Str}:∀{binds:List (Str×Value)} {m:Str->Option Value},(∀v,(x,v)∉binds)->bindC kindOf binds m x=m x
 |[],_,_=>rfl
 |(n,v)::r,m,h=>by
  unfold bindC
  rw[wC λw hw=>h w (List.mem_cons_of_mem _ hw)]
  split
  ·rfl
  ·have:x≠n:=by rintro rfl;exact h v List.mem_cons_self
   simp[this]
theorem q8{kindOf:Str->Option NameKind}{x:Str}{v:Value}:∀{P:List Str} {vs:List Value} {i:Nat} {m:Str->Option Value},P.Nodup->P[i]? =some x->vs[i]? =some v->kindOf x=some .local →
  bindL kindOf (P.zip vs) m x=some v
 |[],_,_,_,_,h,_,_=>by simp at h
 |_::_,[],_,_,_,_,h,_=>by simp at h
 |p::P,w::vs,0,m,nd,h1,h2,hk=>by
  simp at h1 h2;subst h1;subst h2
  show bindL kindOf ((p,w)::P.zip vs) m p=_
  unfold bindL
  rw[wB λv hv=>(List.nodup_cons.mp nd).1 (List.of_mem_zip hv).1,if_pos hk]
  simp
 |p::P,w::vs,i+1,m,nd,h1,h2,hk=>by
  show bindL kindOf ((p,w)::P.zip vs) m x=_
  unfold bindL
  exact q8 (i:=i) (List.nodup_cons.mp nd).2 (by simpa using h1) (by simpa using h2) hk
theorem q9{kindOf:Str->Option NameKind}{x:Str}{v:Value}:∀{P:List Str} {vs:List Value} {i:Nat} {m:Str->Option Value},P.Nodup->P[i]? =some x->vs[i]? =some v->kindOf x≠some .local →
  bindC kindOf (P.zip vs) m x=some v
 |[],_,_,_,_,h,_,_=>by simp at h
 |_::_,[],_,_,_,_,h,_=>by simp at h
 |p::P,w::vs,0,m,nd,h1,h2,hk=>by
  simp at h1 h2;subst h1;subst h2
  show bindC kindOf ((p,w)::P.zip vs) m p=_
  unfold bindC
  rw[wC λv hv=>(List.nodup_cons.mp nd).1 (List.of_mem_zip hv).1,if_neg hk]
  simp
 |p::P,w::vs,i+1,m,nd,h1,h2,hk=>by
  show bindC kindOf ((p,w)::P.zip vs) m x=_
  unfold bindC
  exact q9 (i:=i) (List.nodup_cons.mp nd).2 (by simpa using h1) (by simpa using h2) hk
def start(N:List Str)(vs:List V):St:=vs.map some++List.replicate (N.length-vs.length) none
def uH(CX:yu)(P:Program)(w:World)(K:PySem.W.Frag)(mg:Str->Option Value)(base:Heap)(N:List Str)(qual:Str)(scope:Scope)(f:Addr)(cd:Value)(A:Around)(outer:List Env)(s:Shared)(H:Hp)(E:XK):Cx where
 prog:=P
 w:=w
 K:=K
 mg:=mg
 base:=base
 A:=A.deeper (envOfC qual scope s.heap.objs.size f cd)
 N:=N
 s₀:=s
 H₀:=H
 env:=envOfC qual scope s.heap.objs.size f cd
 outer:=outer
 stack:=envOfC qual scope s.heap.objs.size f cd::outer
 ex:=[]
 calm:=true
 fn:=λ_=>true
 pn:=[]
 xe:=λe s'=>wpAny (model P w) (A.deeper (envOfC qual scope s.heap.objs.size f cd)) (leaving (envOfC qual scope s.heap.objs.size f cd) e) (λ_ s''=>CX outer H s E e s'') (λe' s''=>CX outer H s E e' s'') s'
theorem qo{sc:Scope}{n:Nat}{x:Str}(h:sc.names.lookup x=some .cell):∃c,(cellsFrom n sc.names []).lookup x=some c:=by
 have q:=PySem.W.cellsFrom_some sc.names n [] (.inl h)
 exact Option.isSome_iff_exists.mp q
theorem Dp{CX:yu}{P:Program}{w:World}{K:PySem.W.Frag}{mg:Str->Option Value}{base:Heap}{N ps:List Str}{qual:Str}{scope:Scope}{f:Addr}{cd:Value}{A:Around}{outer:List Env}{s s1:Shared}{H:Hp}{E:XK}{us:List Value}{vs:List V}
  (S:aP N ps scope) (hd:A.handled=none) (e0:yl P w K mg base A outer s H) (hl:vs.length=ps.length) (r:Vals vs us)
  (x:InCallC s s.heap.objs.size (bindL (envOfC qual scope s.heap.objs.size f cd).kindOf (ps.zip us) λ_=>none) (cellsFrom (s.heap.objs.size+1) scope.names []) (bindC (envOfC qual scope s.heap.objs.size f cd).kindOf (ps.zip us) λ_=>none) s1) (hup:s.toks<=s1.toks) :
  Inv (uH CX P w K mg base N qual scope f cd A outer s H E) [] (start N vs) H s1:=by
 have hpl:ps.length<=N.length:=by have:=congrArg List.length S.pre;rw[List.length_take]at this;omega
 obtain⟨h1,tk,rfl,hk⟩:=x.done
 have htk:s.toks<=tk:=hup
 have GI:∀b:Addr,b∉(uH CX P w K mg base N qual scope f cd A outer s H E).ex:=λb z=>absurd (show b∈([]:List Addr) from z) (by simp)
 refine⟨⟨e0.mod,S.kind,rfl,rfl,Nat.le_refl _,λy z c h1 h2=>?_,λy hy=>?_,λy c _ h=>?_,λ_=>hd,Around.frames_deeper e0.frames,.inr ⟨rfl,rfl⟩,λb z=>absurd z (GI b),e0.bs,e0.DQ,λb _ _=>GI b,λb z=>absurd z (GI b),e0.oj,e0.F6,e0.tk⟩,
  rfl,e0.bare,Un.kept hk,⟨_,x.toInCall.ns,λi y v h1 h2 h3=>?_⟩,λy c h=>⟨_,x.cell y c h⟩,e0.hok.fresh (Nat.le_refl _),λy c h=>?_,λp hp=>absurd (show p∈([]:List (Addr×Obj)) from hp) (by simp),e0.hok.kept hk,?_,htk⟩
 ·exact name_of_addr x.apart (PySem.mem_of_lookup h1) (PySem.mem_of_lookup h2)
 ·have hy:scope.names.lookup y=some .cell\/scope.names.lookup y=some .free:=hy
  rcases hy with hy|hy
  ·exact qo hy
  ·exact absurd rfl (S.ER _ (PySem.mem_of_lookup hy))
 ·exact Nat.le_of_lt (x.above y c (PySem.mem_of_lookup h))
 ·have hi:i<vs.length:=by
   unfold start at h2
   by_cases hi:i<vs.length
   ·exact hi
   ·rw[List.getElem?_append_right (by simpa using hi)]at h2
    rw[List.getElem?_replicate]at h2
    split at h2<;>cases h2
  have ha:vs[i]? =some v:=by
   unfold start at h2
   rw[List.getElem?_append_left (by simpa using hi),List.getElem?_map]at h2
   cases e:vs[i]? with
   |none=>rw[e]at h2;cases h2
   |some a=>rw[e]at h2;cases h2;rfl
  obtain⟨u,hu,rv⟩:=r.get ha
  have hp:ps[i]? =some y:=by
   rw[←S.pre,List.getElem?_take_of_lt (by omega)];exact h1
  have L7:ps.Nodup:=by rw[←S.pre];exact S.nd.sublist (List.take_sublist _ _)
  refine⟨u,rv,?_⟩
  rcases S.par y (List.mem_of_getElem? hp)with k|k
  ·exact .inl ⟨k,q8 L7 hp hu k⟩
  ·obtain⟨c,e⟩:=qo (n:=s.heap.objs.size+1) k
   refine .inr ⟨.inl k,c,e,?_⟩
   have q:=x.cell y c e
   rw[q9 L7 hp hu (by show scope.names.lookup y≠_;rw[k];decide)]at q
   exact q
 ·exact e0.hok.fresh (Nat.le_of_lt (x.above y c (PySem.mem_of_lookup h)))
 ·unfold start
  show _=N.length
  rw[List.length_append,List.length_map,List.length_replicate]
  omega
theorem Im{CX:yu}{P:Program}{w:World}{K:PySem.W.Frag}{mg:Str->Option Value}{base:Heap}{k:Nat}{f:Addr}{name qual:Str}{params:Arguments}{body:List Stmt}{scope:Scope}{dV kV doc pm cdv ct oc:Value}{an od:Option Addr}
  {osl:Array (Option Value)} {N ps:List Str} {sp:Sp} (lk:K.lookup f=some ⟨oc,od,.func (PySem.W.fnOf name qual params body scope dV kV doc pm an cdv ct),osl⟩) (hcd:PySem.W.codeIn K cdv qual=true) (S:aP N ps scope)
  (len:∀vs H Q E,sp vs H Q E->vs.length=ps.length)
  (hbody:∀(A:Around) (outer:List Env) (s:Shared) (H:Hp) (vs:List V) (Q:VK) (E:XK),jd k (A.deeper (envOfC qual scope s.heap.objs.size f cdv))->sp vs H Q E →
   ∃t,vt (uH CX P w K mg base N qual scope f cdv A outer s H E) body t/\t { nx:=λ_ H'=>Q .gx H',rt:=Q } (start N vs) H) :
  aW P w K mg base CX (k+1) f (PySem.W.fnOf name qual params body scope dV kV doc pm an cdv ct) ps sp:=by
 refine⟨len,λA outer s H args us vs Q E hr e0 hb r zw=>?_⟩
 have hl:=len _ _ _ _ zw
 have KX:K.In s.heap:=e0.mod.E8.keeps λb o e=>(e0.bs b o e).1
 have lim:s.heap.NoLimit:=e0.mod.nolimit.keeps λb o e=>(e0.bs b o e).1
 have hkind:∀y∈ps.zip us,scope.names.lookup y.1=some .local\/(scope.names.lookup y.1=some .cell/\((cellsFrom (s.heap.objs.size+1) scope.names []).lookup y.1).isSome=true):=λ⟨n,v⟩ hy=>by
  rcases S.par n (List.of_mem_zip hy).1 with q|q
  ·exact .inl q
  ·exact .inr ⟨q,PySem.W.cellsFrom_some _ _ _ (.inl q)⟩
 refine TK.uI (Nat.le_refl _) ?_
 refine codeAny_call_function hr.depth (KX _ _ lk) rfl S.co S.gen rfl (PySem.W.codeRec_of KX hcd) (hb _ _ _ _ ?_)
 refine TK.b9 (Nat.le_refl _) (wpAny_newFunctionEnv_cells S.kind hkind λenv he s1 x hup=>?_)
 subst he
 refine⟨lim.keeps x.toInCall.keep,codeAny_func ?_⟩
 obtain⟨t,ht,hq⟩:=hbody A outer s H vs Q E (hr.deeper _) zw
 have I:Inv (uH CX P w K mg base N qual scope f cdv A outer s H E) [] (start N vs) H s1:=Dp S hr.hd e0 hl r x hup
 refine wpAny_mono (ht [] s1 (start N vs) H _ I hq) (λfl s' hs JX=>?_) λe s' hs=>wpAny_mono hs (λ_ _ z _=>z) λ_ _ z _=>z
 have fin:∀{σ':St} {H':Hp} {v:V} {u:Value},Inv (uH CX P w K mg base N qual scope f cdv A outer s H E) [] σ' H' s'->RelV v u->Q v H'->CE outer P w H s Q u s' :=
  λ{σ' H' v u} J rv q=>⟨v,H',J.os,J.bare,J.base,J.hok,rv,JX,q⟩
 cases fl with
 |ret u =>
  obtain⟨v,σ',H',J,rv,q⟩:=hs
  exact fin J rv q
 |next =>
  obtain⟨σ',H',J,q⟩:=hs
  exact fin (v:=V.gx) (u:=Value.none) J rfl q
 |brk =>
  obtain⟨_,_,_,q⟩:=hs
  exact False.elim q
 |cont =>
  obtain⟨_,_,_,q⟩:=hs
  exact False.elim q
end L2
namespace L2
open PySem PySem.Spec PyProof.Rows
section
variable{X:Cx}{x:Str}{p pos:Pos}{e:Expr}{es:List Expr}{t:TA}{id T:String}{r:List V->Hp->VK->Prop}
def SX(r:List V->Hp->VK->Prop)(t:TA):TE:=λσ H Q=>t σ H λvs H1=>r vs H1 Q
theorem ay (hc:iV X (.builtin id) r) (hg:Gl X x) (hm:X.mg x=none) (hv:bootBuiltins x=some (.builtin id)) (ha:PA X (e::es) t) (hn:x≠ "__name__" :=by decide) (hdb:(x==("__debug__" :Str))=false:=by decide)
  (he:starEach (e::es) X.env=(false,eval e X.env)::starEach es X.env:=by rfl) (hpl:(backTo pos (starEach es X.env)).any (·.1)=false:=by rfl):PE X (.Call (.Name x p) (e::es) [] pos) (SX r t):=by
 intro pins s σ H Q I h
 refine wpAny_Call_Name_kw (um I hg hm hv ?_ hn hdb)
 exact PyProof.Rows.callWith_builtin1 (fK (ha pos pins s σ H _ I h) λus s1 ⟨vs,H1,I1,r1,q1⟩=>hc pins s1 σ H1 vs us Q I1 r1 q1) he hpl
theorem cM (hc:iV X (.type T) r) (hg:Gl X x) (hm:X.mg x=none) (hv:bootBuiltins x=some (.type T)) (ha:PA X (e::es) t) (hn:x≠ "__name__" :=by decide) (hdb:(x==("__debug__" :Str))=false:=by decide)
  (he:starEach (e::es) X.env=(false,eval e X.env)::starEach es X.env:=by rfl) (hpl:(backTo pos (starEach es X.env)).any (·.1)=false:=by rfl):PE X (.Call (.Name x p) (e::es) [] pos) (SX r t):=by
 intro pins s σ H Q I h
 refine wpAny_Call_Name_kw (um I hg hm hv ?_ hn hdb)
 exact PyProof.Rows.callWith_type1 (fK (ha pos pins s σ H _ I h) λus s1 ⟨vs,H1,I1,r1,q1⟩=>hc pins s1 σ H1 vs us Q I1 r1 q1) he hpl
end
end L2
namespace HT
open PySem PyProof.Rows
section
open PySem.SeqAt
open PySem.AutoSeq1 (wpAny_loadPart')
open PySem.MeetsSeq PySem.MeetsSeq2 PySem.MeetsSeq3
end
section
variable{prog:Program}{w:World}{A:Around}{E:Value->Shared->Prop}{s:Shared}
theorem Hj{t b:Addr}{vs ws:List Value}{Q:Value->Shared->Prop}(ht:IsTup s.heap t vs.toArray)(hb:IsTup s.heap b ws.toArray)(hv:vs≠[])
  (h1:ws=[]->Q (.ref t) s) (h2:ws≠[]->Q (.ref s.heap.objs.size) { s with heap:=s.heap.push { cls:=.type "tuple",data:=.seq (vs++ws).toArray } })
  (hsz:vs.length+ws.length<=sizeLine):wpAny (model prog w) A (binaryOp .Add (.ref t) (.ref b)) Q E s:=by
 obtain⟨⟨cls,dd,data,sl⟩,ho,hc,n,hd⟩:=id ht
 obtain⟨⟨Sy,dd2,data2,sl2⟩,ho2,hc2,n2,hd2⟩:=id hb
 simp only at hc hd hc2 hd2
 subst hc hd hc2 hd2
 have e:vs.toArray++ws.toArray=(vs++ws).toArray:=by simp
 by_cases hw:ws=[]
 ·exact concat_meets ⟨_,ho,rfl⟩ ⟨_,ho2,rfl⟩ noFill_tuple_add seq_tuple_add PySem.F.slot_tuple_add PySem.F.entry_tuple_add (PySem.F.args_tuple_add_2 _ _)
   (tuple_addW1 t b vs.toArray ws.toArray n n2 dd dd2 sl sl2 (by simpa using hv) (by simp[hw])) ⟨ho,ho2,h1 hw⟩
 ·refine concat_meets ⟨_,ho,rfl⟩ ⟨_,ho2,rfl⟩ noFill_tuple_add seq_tuple_add PySem.F.slot_tuple_add PySem.F.entry_tuple_add (PySem.F.args_tuple_add_2 _ _)
   (tuple_addW2 t b vs.toArray ws.toArray n n2 dd dd2 sl sl2 (by simpa using hv) (by simpa using hw) (by rw[List.size_toArray,List.size_toArray];exact hsz)) ⟨ho,ho2,?_⟩
  rw[e]
  exact h2 hw
def jF(n d:Nat):Option Int->Nat
 |none=>d
 |some v=>if v<0 then(v+(n:Int)).toNat else min v.toNat n
theorem Er(n d:Nat):jF n d none=d:=rfl
theorem wY(n d k:Nat):jF n d (some (k:Int))=min k n:=by
 show(if(k:Int)<0 then((k:Int)+(n:Int)).toNat else min (k:Int).toNat n)=min k n
 rw[if_neg (by omega),Int.toNat_natCast]
theorem Jr(n d:Nat)(hd:d<=n)(o:Option Int):jF n d o<=n:=by
 cases o with
 |none=>exact hd
 |some v =>
  show(if v<0 then(v+(n:Int)).toNat else min v.toNat n)<=n
  by_cases hv:v<0
  ·rw[if_pos hv];omega
  ·rw[if_neg hv];exact Nat.min_le_right _ _
theorem Cu(v:Int)(n d:Nat):(if v<0 then max (v+(n:Int)) 0 else min v (n:Int))=((jF n d (some v):Nat):Int):=by
 show(if v<0 then max (v+(n:Int)) 0 else min v (n:Int))=(((if v<0 then(v+(n:Int)).toNat else min v.toNat n):Nat):Int)
 by_cases hv:v<0
 ·simp only[if_pos hv];omega
 ·simp only[if_neg hv];omega
theorem Ba(lo hi:Option Int)(n:Nat):Builtin.Slice.sliceAdjust lo hi 1 (n:Int)=(((jF n 0 lo:Nat):Int),((jF n n hi:Nat):Int)):=by
 have h1:¬((1:Int)<0):=by omega
 unfold Builtin.Slice.sliceAdjust
 simp only[h1,if_false]
 refine Prod.ext ?_ ?_
 ·cases lo with
  |none=>rfl
  |some v=>exact Cu v n 0
 ·cases hi with
  |none=>rfl
  |some v=>exact Cu v n n
theorem Az(i j:Nat):Builtin.Slice.slicePlaces (i:Int) (j:Int) 1=j-i:=by
 unfold Builtin.Slice.slicePlaces
 have h1:(1:Int)>0:=by omega
 simp only[h1,if_true,Int.ediv_one]
 split<;>omega
theorem tH{v:Value}{o:Option Int}{Q:Option Int->Shared->Prop}(p:IsPart v o)(h:Q o s):wpAny (model prog w) A (Builtin.Slice.slicePartIndex v) Q E s:=by
 cases p with
 |none=>exact slicePart_none h
 |int i t=>exact slicePart_int h
theorem qF{sl:Addr}{vl vu:Value}{lo hi:Option Int}{n:Nat}{Q:Int×Int×Nat->Shared->Prop}(hs:s.heap.IsSliceOf sl vl vu .none)(pl:IsPart vl lo)(pu:IsPart vu hi)
  (h:Q (((jF n 0 lo:Nat):Int),1,jF n n hi-jF n 0 lo) s):wpAny (model prog w) A (Builtin.Slice.sliceApplied (.ref sl) (pure (n:Int))) Q E s:=by
 obtain⟨os,hos,hcs,hds⟩:=id hs
 unfold Builtin.Slice.sliceApplied Builtin.Slice.sliceFields
 refine wpAny_bind (wpAny_bind (wpAny_field hos hds (x:=vl) rfl (wpAny_bind (wpAny_field hos hds (x:=vu) rfl (wpAny_bind (wpAny_field hos hds (x:=.none) rfl (wpAny_pure ?_)))))))
 refine wpAny_bind (slicePart_none ?_)
 show wpAny _ _ (if((1:Int)==0)=true then _ else _) _ _ s
 rw[if_neg (by decide)]
 refine wpAny_bind (tH pl (wpAny_bind (tH pu (wpAny_bind (wpAny_pure ?_)))))
 show wpAny _ _ (match Builtin.Slice.sliceAdjust lo hi 1 (n:Int)with|(lo,hi)=>pure (lo,(1:Int),Builtin.Slice.slicePlaces lo hi 1)) _ _ s
 rw[Ba lo hi n]
 show wpAny _ _ (pure (((jF n 0 lo:Nat):Int),(1:Int),Builtin.Slice.slicePlaces ((jF n 0 lo:Nat):Int) ((jF n n hi:Nat):Int) 1)) _ _ s
 rw[Az]
 exact wpAny_pure h
theorem EF(xs:Array Value)(i k:Nat):((List.range k).filterMap λ(m:Nat)=>xs[((i:Int)+(m:Int)*1).toNat]?).toArray=((xs.toList.drop i).take k).toArray:=by
 have e:(λ(m:Nat)=>xs[((i:Int)+(m:Int)*1).toNat]?)=λm=>xs[i+m]? :=by
  funext m
  have:((i:Int)+(m:Int)*1).toNat=i+m:=by omega
  rw[this]
 rw[e]
 have:=pick_run xs i k
 rw[List.filterMap_map]at this
 have e2:((λx=>xs[x]?) ∘ λx=>i+x)=λm=>xs[i+m]? :=rfl
 rw[e2]at this
 rw[this]
theorem qj{t sl:Addr}{items:Array Value}{vl vu:Value}{lo hi:Option Int}{Q:Value->Shared->Prop}(ht:IsTup s.heap t items)(hs:s.heap.IsSliceOf sl vl vu .none)(pl:IsPart vl lo)(pu:IsPart vu hi)
  (hw:¬(jF items.size 0 lo=0/\jF items.size items.size hi=items.size))
  (h:Q (.ref s.heap.objs.size) { s with heap:=s.heap.push { cls:=.type "tuple",data:=.seq ((items.toList.drop (jF items.size 0 lo)).take (jF items.size items.size hi-jF items.size 0 lo)).toArray } })
  (hsz:items.size<=sizeLine):wpAny (model prog w) A (getItem (.ref t) (.ref sl)) Q E s:=by
 have Cb:sizeOk (.seq ((items.toList.drop (jF items.size 0 lo)).take (jF items.size items.size hi-jF items.size 0 lo)).toArray):=by
  show((items.toList.drop (jF items.size 0 lo)).take (jF items.size items.size hi-jF items.size 0 lo)).toArray.size<=sizeLine
  rw[List.size_toArray,List.length_take,List.length_drop,Array.length_toList]
  omega
 have hj:jF items.size items.size hi<=items.size:=Jr _ _ (Nat.le_refl _) hi
 obtain⟨os,hos,hcs,hds⟩:=id hs
 have VZ:s.TypeIs (.ref sl) "slice" :=⟨os,hos,hcs⟩
 unfold getItem
 try with_reducible refine wpAny_holding ?_
 first|refine wpAny_bind (wpAny_pure ?_)|skip
 refine wpAny_bind (wpAny_sequenceKey ht.typeIs (by decide) ?_)
 refine wpAny_bind (wpAny_callSpecial?_slot (name:=Str.ofString "__getitem__") ht.typeIs PyProof.Rows.slot_tuple_getitem
  (wpAny_call_entry PyProof.Rows.slot_tuple_getitem ht.typeIs entry_tuple_getitem ?_ (args_tuple_getitem _ _)))
 show wpAny _ _ (Builtin.Tuple.tupleItemsOf (.ref t) >>= _) _ _ s
 refine wpAny_bind (tupleItemsOf_ ht ?_)
 refine wpAny_bind (wpAny_typeOf VZ ?_)
 rw[if_pos (by decide)]
 refine wpAny_bind (qF hs pl pu ?_)
 have hno:¬((((jF items.size 0 lo:Nat):Int)==0&&(1:Int)==1&&(jF items.size items.size hi-jF items.size 0 lo)==items.size)=true):=by
  intro q
  rw[Bool.and_eq_true,Bool.and_eq_true]at q
  have q1:((jF items.size 0 lo:Nat):Int)=0:=eq_of_beq q.1.1
  have q2:jF items.size items.size hi-jF items.size 0 lo=items.size:=eq_of_beq q.2
  exact hw ⟨by omega,by omega⟩
 show wpAny _ _ (if(((jF items.size 0 lo:Nat):Int)==0&&(1:Int)==1&&(jF items.size items.size hi-jF items.size 0 lo)==items.size)=true then _ else _) _ _ s
 rw[if_neg hno,EF]
 first
  |exact wpAny_bind (m:=Builtin.Tuple.tupleExact _) (wpAny_newObj_type (wpAny_pure ⟨_,rfl,wpAny_pure h⟩) Cb)
  |exact wpAny_bind (m:=Builtin.Tuple.tupleExact _) (wpAny_newObj_type (wpAny_bind (wpAny_pure (wpAny_pure ⟨_,rfl,wpAny_pure h⟩))) Cb)
  |exact wpAny_bind (wpAny_bind (m:=Builtin.Tuple.tupleExact _) (wpAny_newObj_type (wpAny_pure (wpAny_pure ⟨_,rfl,wpAny_pure h⟩)) Cb))
  |exact wpAny_bind (wpAny_bind (m:=Builtin.Tuple.tupleExact _) (wpAny_newObj_type (wpAny_pure ⟨_,rfl,wpAny_pure h⟩) Cb))
end
end HT
namespace L2
open PySem PySem.Spec PyProof.Rows
abbrev TO:=St->Hp->(Option Int->Hp->Prop)->Prop
def PO(X:Cx)(e:Option Expr)(t:TO):Prop :=
 ∀(pins:List (Addr×Obj)) (s:Shared) (σ:St) (H:Hp) (Q:Option Int->Hp->Prop),Inv X pins σ H s->t σ H Q →
  wpAny (model X.prog X.w) X.A (evalPart e X.env) (λu s'=>∃o H',Inv X pins σ H' s'/\IsPart u o/\Q o H') X.xe s
def Gn:TO:=λ_ H Q=>Q none H
def Lj(t:TE):TO:=λσ H Q=>t σ H λx H1=>∃i,x= .int i/\Q (some i) H1
section
variable{X:Cx}{e:Expr}{te:TE}{lo hi:Option Expr}{tl th:TO}{pos p2:Pos}
theorem nV:PO X none Gn:=by
 intro pins s σ H Q I h
 rw[evalPart_none]
 exact wpAny_pure ⟨none,H,I,.none,h⟩
theorem nU(h:PE X e te):PO X (some e) (Lj te):=by
 intro pins s σ H Q I hw
 rw[evalPart_some]
 refine fK (h pins s σ H _ I hw) λu s1 ⟨x,H1,I1,r1,q1⟩=>?_
 obtain⟨i,rfl,q⟩:=q1
 obtain⟨t,rfl⟩:=r1
 exact⟨some i,H1,I1,.int i t,q⟩
def Of(X:Cx)(r:V->Option Int->Option Int->Hp->VK->Prop):Prop :=
 ∀(pins:List (Addr×Obj)) (s:Shared) (σ:St) (H:Hp) (x:V) (v vl vu:Value) (lo hi:Option Int) (sl:Addr) (Q:VK),Inv X pins σ H s->RelV x v->s.heap.IsSliceOf sl vl vu .none->IsPart vl lo->IsPart vu hi->r x lo hi H Q →
  ∃T id,typeLookup (.type T) "__getitem__" =pure (some (.builtin id))/\s.TypeIs v T/\wpAny (model X.prog X.w) X.A (getItem v (.ref sl)) (EP X pins σ Q) X.xe s
def UK(r:V->Option Int->Option Int->Hp->VK->Prop)(te:TE)(tl th:TO):TE:=λσ H Q=>te σ H λx H1=>tl σ H1 λl H2=>th σ H2 λu H3=>r x l u H3 Q
theorem lB{r:V->Option Int->Option Int->Hp->VK->Prop}(hr:Of X r)(he:PE X e te)(hl:PO X lo tl)(hu:PO X hi th):PE X (.Subscript e (.Slice lo hi none p2) pos) (UK r te tl th):=by
 intro pins s σ H Q I h
 refine Subscript_ (fK (he pins s σ H _ I h) λv s1 ⟨x,H1,I1,r1,q1⟩=>?_)
 refine wpAny_Slice (fK (hl pins s1 σ H1 _ I1 q1) λvl s2 ⟨l,H2,I2,pl,q2⟩=>fK (hu pins s2 σ H2 _ I2 q2) λvu s3 ⟨u,H3,I3,pu,q3⟩=>?_)
 rw[evalPart_none]
 refine wpAny_pure ?_
 have I4:Inv X pins σ H3 { s3 with heap:=s3.heap.push { cls:=.type "slice",data:=.fields #[vl,vu,.none] } }:=I3.kept (t':=s3.toks) λb ob q=>Heap.get?_push_of_some _ q
 obtain⟨T,id,hT,ht,hg⟩:=hr pins { s3 with heap:=s3.heap.push { cls:=.type "slice",data:=.fields #[vl,vu,.none] } } σ H3 x v vl vu l u s3.heap.objs.size Q I4 r1 (Heap.IsSliceOf.new ..) pl pu q3
 show wpAny (model X.prog X.w) X.A (subscriptTail e (.Slice lo hi none p2) v (.ref s3.heap.objs.size)) (EP X pins σ Q) X.xe { s3 with heap:=s3.heap.push { cls:=.type "slice",data:=.fields #[vl,vu,.none] } }
 exact tail_any (ops:=[.ref s3.heap.objs.size,v]) ht hT hg (by with_unfolding_all rfl)
def qY(xs:List V)(lo hi:Option Int):List V:=(xs.drop (HT.jF xs.length 0 lo)).take (HT.jF xs.length xs.length hi-HT.jF xs.length 0 lo)
theorem rP(xs:List V)(lo hi:Option Int):(qY xs lo hi).length<=xs.length:=by
 unfold qY
 rw[List.length_take,List.length_drop]
 omega
def QI(K:PySem.W.Frag):V->Option Int->Option Int->Hp->VK->Prop:=λx lo hi H Q=>∃a xs,x= .ref a/\cL K H a xs ∧
 ¬(HT.jF xs.length 0 lo=0/\HT.jF xs.length xs.length hi=xs.length)/\∀p,H p=none->Q (.ref p) (upd H p (.tup (qY xs lo hi)))
theorem En:Of X (QI X.K):=by
 intro pins s σ H x v vl vu lo hi sl Q I rx hs pl pu h
 obtain⟨a,xs,rfl,hx,hw,q⟩:=h
 cases rx
 obtain⟨its,r,ht,hz⟩:=I.tuple hx
 have hlen:its.toArray.size=xs.length:=by rw[List.size_toArray];exact r.length.symm
 refine⟨"tuple",_,PyProof.Rows.slot_tuple_getitem.lookup,ht.typeIs,?_⟩
 refine HT.qj ht hs pl pu (by rw[hlen];exact hw) ?_ (by rw[hlen];exact hz)
 rw[hlen]
 refine⟨.ref s.heap.objs.size,_,I.laid (t':=s.toks) (o:=.tup (qY xs lo hi)) (λb ob q=>Heap.get?_push_of_some _ q) (Nat.le_refl _) ?_,rfl,q _ (I.hok.fresh (Nat.le_refl _))⟩
 exact⟨Nat.le_trans (rP xs lo hi) hz,_,(r.drop (HT.jF xs.length 0 lo)).take (HT.jF xs.length xs.length hi-HT.jF xs.length 0 lo),IsTup.new _ _⟩
def HL(K:PySem.W.Frag):R2:=λx y H Q=>∃a b xs ys,x= .ref a/\y= .ref b/\cL K H a xs/\cL K H b ys/\xs≠[]/\xs.length+ys.length<=sizeLine ∧
 (ys=[]->Q (.ref a) H)/\(ys≠[]->∀p,H p=none->Q (.ref p) (upd H p (.tup (xs++ys))))
theorem Vals.xy{xs:List V}{us:List Value}(r:Vals xs us):us=[]↔xs=[]:=by
 cases r with
 |nil=>simp
 |cons _ _=>simp
theorem GF:mL X (binaryOp .Add) (HL X.K):=by
 intro pins s σ H x y v u Q I rx ry h
 obtain⟨a,b,xs,ys,rfl,rfl,ha,hb,hx,hz,q1,q2⟩:=h
 cases rx
 cases ry
 obtain⟨its,r1,p1,_⟩:=I.tuple ha
 obtain⟨its2,r2,p2,_⟩:=I.tuple hb
 refine HT.Hj p1 p2 (λz=>hx (r1.xy.mp z)) (λz=>⟨.ref a,H,I,rfl,q1 (r2.xy.mp z)⟩) (λz=>?_) (by rw[←r1.length,←r2.length];exact hz)
 refine⟨.ref s.heap.objs.size,_,I.laid (t':=s.toks) (o:=.tup (xs++ys)) (λb ob q=>Heap.get?_push_of_some _ q) (Nat.le_refl _) ?_,rfl,q2 (λw=>z (r2.xy.mpr w)) _ (I.hok.fresh (Nat.le_refl _))⟩
 exact⟨by rw[List.length_append];exact hz,_,r1.append r2,IsTup.new _ _⟩
end
end L2
namespace L2
open PySem PySem.Spec PyProof.Rows
def B7(n:Nat)(i:Int):Option Nat:=if 0<=i then(if i<n then some i.toNat else none)else if -(n:Int)<=i then some (i+n).toNat else none
def A9{α:Type}(xs:List α)(i:Int):Option α:=(B7 xs.length i).bind λj=>xs[j]?
theorem B6{n:Nat}{i:Int}{j:Nat}(h:B7 n i=some j):seqIndex? i n=some j/\j<n/\ -(n:Int)<=i/\i<n:=by
 unfold B7 at h
 by_cases h0:0<=i
 ·rw[if_pos h0]at h
  by_cases h1:i<n
  ·rw[if_pos h1]at h
   have e:i.toNat=j:=Option.some.inj h
   exact⟨by rw[seqIndex_of h0 h1,e],by omega,by omega,h1⟩
  ·rw[if_neg h1]at h;cases h
 ·rw[if_neg h0]at h
  by_cases h1: -(n:Int)<=i
  ·rw[if_pos h1]at h
   have e:(i+n).toNat=j:=Option.some.inj h
   exact⟨by rw[seqIndex_neg (by omega) h1,e],by omega,h1,by omega⟩
  ·rw[if_neg h1]at h;cases h
theorem xT{α:Type}{xs:List α}{i:Int}{v:α}(h:A9 xs i=some v):∃j,seqIndex? i xs.length=some j/\xs[j]? =some v/\j<xs.length/\ -(xs.length:Int)<=i/\i<xs.length:=by
 unfold A9 at h
 cases e:B7 xs.length i with
 |none=>rw[e]at h;cases h
 |some j =>
  rw[e]at h
  obtain⟨h1,h2,h3,h4⟩:=B6 e
  exact⟨j,h1,h,h2,h3,h4⟩
theorem bO{α:Type}{xs:List α}{j:Nat}{v:α}(h:xs[j]? =some v):A9 xs (j:Int)=some v:=by
 have hj:j<xs.length:=(List.getElem?_eq_some_iff.mp h).1
 have e:B7 xs.length (j:Int)=some j:=by
  unfold B7
  rw[if_pos (by omega),if_pos (by omega)];simp
 unfold A9;rw[e];exact h
def Ht(b:Expr):Prop:=∀o i,subscripted b false o i=operate [o,i] (getItem o i)
def Nj(X:Cx)(r:R2):Prop :=
 ∀(value slice:Expr) (pins:List (Addr×Obj)) (s:Shared) (σ:St) (H:Hp) (x y:V) (v u:Value) (Q:VK),Inv X pins σ H s->RelV x v->RelV y u->r x y H Q →
  subscripted slice false v u=operate [v,u] (getItem v u)->wpAny (model X.prog X.w) X.A (subscriptTail value slice v u) (EP X pins σ Q) X.xe s
def K9(X:Cx)(id:String)(r:V->List V->Hp->VK->Prop):Prop :=
 ∀(pins:List (Addr×Obj)) (s:Shared) (σ:St) (H:Hp) (x:V) (xs:List V) (v:Value) (us:List Value) (Q:VK),Inv X pins σ H s->RelV x v->Vals xs us->r x xs H Q →
  wpAny (model X.prog X.w) X.A (call (.builtin id) (v::us)) (EP X pins σ Q) X.xe s
section
variable{X:Cx}{a b:Expr}{ta tb:TE}{pos:Pos}
theorem aV{r:R2}(hr:Nj X r)(ha:PE X a ta)(hb:PE X b tb)(hs:Ht b):PE X (.Subscript a b pos) (Nv r ta tb):=by
 intro pins s σ H Q I h
 exact Subscript_ (KD ha hb I h λv u s2 x y H2 I2 rx ry q=>hr a b pins s2 σ H2 x y v u Q I2 rx ry q (hs _ _))
def QL(K:PySem.W.Frag):R2:=λx y H Q=>∃p xs i v,x= .ref p/\y= .int i/\bX K H p xs/\A9 xs i=some v/\Q v H
def LN(K:PySem.W.Frag):R2:=λx y H Q=>∃p xs i v,x= .ref p/\y= .int i/\cL K H p xs/\A9 xs i=some v/\Q v H
def QK:R2:=λx y H Q=>∃z i c,x= .str z/\y= .int i/\z.length<=sizeLine/\A9 z.cps.toList i=some c/\Q (.str ⟨#[c]⟩) H
theorem bG:Nj X (QL X.K):=by
 intro value slice pins s σ H x y v u Q I rx ry h hs
 obtain⟨p,xs,i,z,rfl,rfl,hq,he,q⟩:=h
 cases rx
 obtain⟨t,rfl⟩:=ry
 obtain⟨its,r,pl,hz⟩:=I.list hq
 obtain⟨j,h1,h2,h3,h4,h5⟩:=xT he
 obtain⟨w,ew,rw'⟩:=r.get h2
 have hl:=r.length
 have hn:=ug
 have fin:EP X pins σ Q w s:=⟨z,H,I,rw',q⟩
 by_cases h0:0<=i
 ·have hj:i.toNat=j:=by
   rw[seqIndex_of h0 h5]at h1
   exact Option.some.inj h1
  exact item_listR pl.isList h0 (by omega) (by rw[hj];simpa using ew) fin hs
 ·have hj:(i+(its.toArray.size:Int)).toNat=j:=by
   rw[seqIndex_neg (by omega) h4]at h1
   rw[List.size_toArray,←hl]
   exact Option.some.inj h1
  exact subscriptTail_builtinR (x:=w) pl.isList.typeIs slot_list_getitem.lookup
   (wpAny_getItem_list_neg (Q:=λr s'=>r=w/\EP X pins σ Q r s') pl.isList (by omega) (by rw[List.size_toArray]<;>omega) (by omega) (by rw[hj];simpa using ew) ⟨rfl,fin⟩) hs
theorem bW:Nj X (LN X.K):=by
 intro value slice pins s σ H x y v u Q I rx ry h hs
 obtain⟨p,xs,i,z,rfl,rfl,hq,he,q⟩:=h
 cases rx
 obtain⟨t,rfl⟩:=ry
 obtain⟨its,r,pl,hz⟩:=I.tuple hq
 obtain⟨j,h1,h2,h3,h4,h5⟩:=xT he
 obtain⟨w,ew,rw'⟩:=r.get h2
 have hl:=r.length
 have hn:=ug
 have fin:EP X pins σ Q w s:=⟨z,H,I,rw',q⟩
 exact subscriptTail_builtinR (x:=w) pl.typeIs slot_tuple_getitem.lookup
  (getItem_tuple (j:=j) (Q:=λr s'=>r=w/\EP X pins σ Q r s') pl (by omega) (by omega) (by rw[List.size_toArray,←hl];exact h1) (by simpa using ew) ⟨rfl,fin⟩) hs
theorem Fb:Nj X QK:=by
 intro value slice pins s σ H x y v u Q I rx ry h hs
 obtain⟨z,i,c,rfl,rfl,hz,he,q⟩:=h
 obtain⟨t,rfl⟩:=rx
 obtain⟨t',rfl⟩:=ry
 obtain⟨j,h1,h2,h3,h4,h5⟩:=xT he
 have hl:z.cps.toList.length=z.length:=by simp[Str.length]
 rw[hl]at h1 h4 h5
 have hn:=ug
 exact tail_any (typeIs_str s z t) slot_str_getitem.lookup (getItem_str (c:=c) (by
  have e1:decide (i< -(2 ^ 63:Int))=false:=decide_eq_false (by omega)
  have e2:decide (i>=2 ^ 63)=false:=decide_eq_false (by omega)
  rw[e1,e2,Bool.or_false]) (by rw[h1];simpa using h2) ⟨.str ⟨#[c]⟩,H,I.tok _,⟨_,rfl⟩,q⟩) hs
theorem AR(its:List Value)(n j:Nat)(u:Value):Obj.mapSeq (·.setIfInBounds j u) { cls:=.type "list",data:=.seq its.toArray n }={ cls:=.type "list",data:=.seq (its.set j u).toArray n }:=by
 simp[Obj.mapSeq]
theorem Inv.lst{pins:List (Addr×Obj)}{σ:St}{H:Hp}{s:Shared}{p:Addr}{xs:List V}(I:Inv X pins σ H s)(h:H p=some (.lst xs)):
  ∃(its:List Value) (n:Nat),Vals xs its/\s.heap.get? p=some { cls:=.type "list",data:=.seq its.toArray n }/\xs.length<=sizeLine:=by
 obtain⟨z,its,n,r,e⟩:=I.hok p _ h
 exact⟨its,n,r,e,z⟩
theorem Inv.JH{pins:List (Addr×Obj)}{σ:St}{H:Hp}{s:Shared}{p:Addr}{xs ys:List V}{its its':List Value}{n n':Nat}{f:Obj->Obj}(I:Inv X pins σ H s)(h:H p=some (.lst xs))
  (ho:s.heap.get? p=some { cls:=.type "list",data:=.seq its.toArray n }) (hf:f { cls:=.type "list",data:=.seq its.toArray n }={ cls:=.type "list",data:=.seq its'.toArray n' }) (r:Vals ys its') (hz:ys.length<=sizeLine) (t:Nat) (ht:s.toks<=t:=by first|exact Nat.le_refl _|exact Nat.le_succ _|assumption|omega) :
  Inv X pins σ (upd H p (.lst ys)) { s with heap:=s.heap.update p f,toks:=t }:=by
 have e:(s.heap.update p f).get? p=some { cls:=.type "list",data:=.seq its'.toArray n' }:=by
  rw[Heap.get?_update_self f ho (by rw[hf]<;>rfl),hf]
 refine I.write (x:=p) (e:=p) (by rw[h];trivial) (.inl rfl) (λb u hb q=>(Heap.get?_update_other _ _ (Ne.symm hb)).trans q) ⟨_,e⟩ ?_
 exact⟨hz,its',n',r,e⟩
def LK:V->V->V->Hp->(Hp->Prop)->Prop:=λo i v H Q=>∃p xs k j,o= .ref p/\i= .int k/\H p=some (.lst xs)/\B7 xs.length k=some j/\Q (upd H p (.lst (xs.set j v)))
theorem set_list:Nc X LK:=by
 intro pins s σ H o i v ov iv u Q I ro ri rv h
 obtain⟨p,xs,k,j,rfl,rfl,hp,hj,q⟩:=h
 cases ro
 obtain⟨t,rfl⟩:=ri
 obtain⟨its,n,r,ho,hz⟩:=I.lst hp
 obtain⟨h1,h2,h3,h4⟩:=B6 hj
 have hl:=r.length
 have hn:=ug
 have I':Inv X pins σ (upd H p (.lst (xs.set j v))) { s with heap:=s.heap.update p (Obj.mapSeq (·.setIfInBounds j u)) } :=
  I.JH hp ho (AR its n j u) (r.set rv j) (by rw[List.length_set];exact hz) s.toks
 by_cases h0:0<=k
 ·have hk:k.toNat=j:=by
   rw[seqIndex_of h0 h4]at h1
   exact Option.some.inj h1
  exact PySem.W.ki_setAt ho h0 (by omega) (by rw[List.size_toArray,←hl];exact h4) (by rw[hk];exact⟨_,I',q⟩)
 ·have hk:(k+(its.toArray.size:Int)).toNat=j:=by
   rw[seqIndex_neg (by omega) h3]at h1
   rw[List.size_toArray,←hl]
   exact Option.some.inj h1
  exact PySem.W.ki_setBack ho (by omega) (by rw[List.size_toArray,←hl];exact h3) (by omega) (by rw[hk];exact⟨_,I',q⟩)
theorem wR(lo hi:Option Int)(n:Nat):(sliceBounds lo hi none n).1=((HT.jF n 0 lo:Nat):Int)/\(sliceBounds lo hi none n).2.1=((HT.jF n n hi:Nat):Int)/\(sliceBounds lo hi none n).2.2=1:=by
 refine⟨?_,?_,rfl⟩
 ·cases lo with
  |none=>simp[sliceBounds,HT.jF]
  |some i =>
   simp only[sliceBounds,HT.jF,Option.getD_none,show(1:Int)>0 by decide,if_true]
   by_cases h:i<0
   ·simp only[h,if_true]<;>omega
   ·simp only[h,if_false]<;>omega
 ·cases hi with
  |none=>simp[sliceBounds,HT.jF]
  |some i =>
   simp only[sliceBounds,HT.jF,Option.getD_none,show(1:Int)>0 by decide,if_true]
   by_cases h:i<0
   ·simp only[h,if_true]<;>omega
   ·simp only[h,if_false]<;>omega
theorem uU(its:List Value)(lo hi:Option Int):slicePick its.toArray lo hi none=((its.drop (HT.jF its.length 0 lo)).take (HT.jF its.length its.length hi-HT.jF its.length 0 lo)).toArray:=by
 obtain⟨h1,h2,h3⟩:=wR lo hi its.toArray.size
 unfold slicePick
 rw[h1,h2,h3]
 simp only[sliceRange_one,pick_run,List.size_toArray]<;>rfl
def QJ(K:PySem.W.Frag):V->Option Int->Option Int->Hp->VK->Prop:=λx lo hi H Q=>∃a xs,x= .ref a/\bX K H a xs/\∀p,H p=none->Q (.ref p) (upd H p (.lst (qY xs lo hi)))
theorem wV:Of X (QJ X.K):=by
 intro pins s σ H x v vl vu lo hi sl Q I rx hs pl pu h
 obtain⟨a,xs,rfl,hx,q⟩:=h
 cases rx
 obtain⟨its,r,ht,hz⟩:=I.list hx
 have hlen:=r.length
 refine⟨"list",_,slot_list_getitem.lookup,ht.isList.typeIs,?_⟩
 refine wpAny_getItem_list_slice ht.isList hs pl pu .none (by simp) ?_ (by rw[List.size_toArray]<;>omega)
 rw[uU,←hlen]
 refine⟨.ref s.heap.objs.size,_,I.laid (t':=s.toks) (o:=.lst (qY xs lo hi)) (λb ob q=>Heap.get?_push_of_some _ q) (Nat.le_refl _) ?_,rfl,q _ (I.hok.fresh (Nat.le_refl _))⟩
 exact⟨Nat.le_trans (rP xs lo hi) hz,_,0,(r.drop (HT.jF xs.length 0 lo)).take (HT.jF xs.length xs.length hi-HT.jF xs.length 0 lo),Heap.get?_push_size _ rfl⟩
def rO:V->Bool
 | .gx=>true
 | .bl _=>true
 | .int _=>true
 | .str _=>true
 |_=>false
def Io:V->V->Bool
 | .gx,.gx=>true
 | .bl a,.bl b=>a==b
 | .bl a,.int b=>(if a then 1 else 0)==b
 | .int a,.bl b=>a==(if b then 1 else 0)
 | .int a,.int b=>a==b
 | .str a,.str b=>a==b
 |_,_=>false
theorem FD{A:Around}{s:Shared}{y x:V}{u v:Value}(ry:RelV y u)(rx:RelV x v)(fy:rO y=true)(fx:rO x=true):SeqAt.EqAt A s u v (Io y x):=by
 cases y with
 |gx =>
  cases ry
  cases x with
  |gx=>cases rx;exact SeqAt.EqAt.same _
  |bl b=>cases rx;exact SeqAt.EqAt.none_bool b
  |int b=>obtain⟨t,rfl⟩:=rx;exact SeqAt.EqAt.none_int b t
  |str b=>obtain⟨t,rfl⟩:=rx;exact SeqAt.EqAt.none_str b t
  |_=>exact absurd (show false=true from fx) Bool.false_ne_true
 |bl a =>
  cases ry
  cases x with
  |gx=>cases rx;exact SeqAt.EqAt.bool_none a
  |bl b=>cases rx;exact SeqAt.EqAt.bool_bool a b
  |int b=>obtain⟨t,rfl⟩:=rx;exact SeqAt.EqAt.bool_int a b t
  |str b=>obtain⟨t,rfl⟩:=rx;exact SeqAt.EqAt.bool_str a b t
  |_=>exact absurd (show false=true from fx) Bool.false_ne_true
 |int a =>
  obtain⟨t',rfl⟩:=ry
  cases x with
  |gx=>cases rx;exact SeqAt.EqAt.int_none a t'
  |bl b=>cases rx;exact SeqAt.EqAt.int_bool a t' b
  |int b=>obtain⟨t,rfl⟩:=rx;exact SeqAt.EqAt.int_int a t' b t
  |str b=>obtain⟨t,rfl⟩:=rx;exact SeqAt.EqAt.int_str a t' b t
  |_=>exact absurd (show false=true from fx) Bool.false_ne_true
 |str a =>
  obtain⟨t',rfl⟩:=ry
  cases x with
  |gx=>cases rx;exact SeqAt.EqAt.str_none a t'
  |bl b=>cases rx;exact SeqAt.EqAt.str_bool a t' b
  |int b=>obtain⟨t,rfl⟩:=rx;exact SeqAt.EqAt.str_int a t' b t
  |str b=>obtain⟨t,rfl⟩:=rx;exact SeqAt.EqAt.str_str a t' b t
  |_=>exact absurd (show false=true from fx) Bool.false_ne_true
 |_=>exact absurd (show false=true from fy) Bool.false_ne_true
def Hi(x:V)(u:Value):Bool:=match u with
 | .none=>Io .gx x
 | .bool b=>Io (.bl b) x
 | .int i _=>Io (.int i) x
 | .str z _=>Io (.str z) x
 |_=>false
theorem FA{x y:V}{u:Value}(r:RelV y u)(f:rO y=true):Hi x u=Io y x:=by
 cases y with
 |gx=>cases r;rfl
 |bl b=>cases r;rfl
 |int i=>obtain⟨t,rfl⟩:=r;rfl
 |str z=>obtain⟨t,rfl⟩:=r;rfl
 |_=>exact absurd (show false=true from f) Bool.false_ne_true
theorem xU{x:V}:∀{xs:List V} {us:List Value},Vals xs us->xs.all rO=true->us.any (Hi x)=xs.any λy=>Io y x
 |_,_,.nil,_=>rfl
 |y::xs,u::us,.cons r t,f=>by
  rw[List.all_cons,Bool.and_eq_true]at f
  rw[List.any_cons,List.any_cons,FA r f.1,xU t f.2]
theorem uc{A:Around}{s:Shared}{x:V}{v:Value}(rx:RelV x v)(fx:rO x=true):∀{xs:List V} {us:List Value},Vals xs us->xs.all rO=true->∀u∈us,SeqAt.EqAt A s u v (Hi x u)
 |_,_,.nil,_=>λu hu=>by cases hu
 |y::xs,u::us,.cons r t,f=>λu' hu=>by
  rw[List.all_cons,Bool.and_eq_true]at f
  rcases List.mem_cons.mp hu with rfl|hu
  ·rw[FA r f.1];exact FD r rx f.1 fx
  ·exact uc rx fx t f.2 u' hu
def NN(x:V)(xs:List V):Bool:=xs.any λy=>Io y x
def UU(K:PySem.W.Frag)(neg:Bool):R2:=λx y H Q=>∃p xs,y= .ref p/\(bX K H p xs\/cL K H p xs)/\rO x=true/\xs.all rO=true/\Q (.bl (if neg then !NN x xs else NN x xs)) H
theorem xm:mL X (compareOp .NotIn) (UU X.K true):=by
 intro pins s σ H x y v u Q I rx ry h
 obtain⟨p,xs,rfl,hq,fx,fs,q⟩:=h
 cases ry
 rcases hq with hq|hq
 ·obtain⟨its,r,pl,hz⟩:=I.list hq
  refine SeqAt.notIn_listAt (Hi x) pl.isList (λw hw=>uc rx fx r fs w (by simpa using hw)) ⟨.bl _,H,I,rfl,?_⟩
  rw[show its.toArray.any (Hi x)=its.any (Hi x) by simp,xU r fs]
  exact q
 ·obtain⟨its,r,pl,hz⟩:=I.tuple hq
  refine SeqAt.notIn_tupleAt (Hi x) pl (λw hw=>uc rx fx r fs w (by simpa using hw)) ⟨.bl _,H,I,rfl,?_⟩
  rw[show its.toArray.any (Hi x)=its.any (Hi x) by simp,xU r fs]
  exact q
theorem xj:mL X (compareOp .NotIn) (λx y H Q=>∃i j,x= .str i/\y= .str j/\Q (.bl (!(!(Builtin.Str.occurrences j i 0 j.length 1).isEmpty))) H):=by
 intro pins s σ H x y v u Q I rx ry h
 obtain⟨i,j,rfl,rfl,q⟩:=h
 obtain⟨t,rfl⟩:=rx
 obtain⟨t',rfl⟩:=ry
 exact notIn_str ⟨.bl _,H,I,rfl,q⟩
theorem xO:iV X (.type "list") (λxs H Q=>∃p ys,xs=[.ref p]/\(bX X.K H p ys\/cL X.K H p ys)/\∀l,H l=none->Q (.ref l) (upd H l (.lst ys))):=by
 intro pins s σ H xs us Q I r h
 obtain⟨p,ys,rfl,hq,q⟩:=h
 obtain⟨u,rfl,rx⟩:=vals1 r
 cases rx
 have fin:∀(its:List Value),Vals ys its->ys.length<=sizeLine->∀(h':Heap) (c':Nat),(∀b o',s.heap.get? b=some o'->h'.get? b=some o') →
   h'.get? s.heap.objs.size=some { cls:=.type "list",dict:=none,data:=.seq its.toArray c',slots:= #[] }->EP X pins σ Q (.ref s.heap.objs.size) { s with heap:=h' }:=λits r' hz h' c' kp e =>
  ⟨.ref s.heap.objs.size,_,I.laid (t':=s.toks) kp (Nat.le_refl _) (show b8 X.prog X.w _ h' _ (.lst ys) from⟨hz,its,c',r',e⟩),rfl,q _ (I.hok.fresh (Nat.le_refl _))⟩
 rcases hq with hq|hq
 ·obtain⟨its,r',pl,hz⟩:=I.list hq
  have hlen:=r'.length
  obtain⟨o,ho,hc,n,hd⟩:=pl.isList
  exact call_list_seq p (.inl rfl) ho hc hd (λh' c' kp e=>fin its r' hz h' c' kp e) (by simp only[List.size_toArray]<;>omega)
 ·obtain⟨its,r',pl,hz⟩:=I.tuple hq
  have hlen:=r'.length
  obtain⟨o,ho,hc,n,hd⟩:=pl
  exact call_list_seq p (.inr rfl) ho hc hd (λh' c' kp e=>fin its r' hz h' c' kp e) (by simp only[List.size_toArray]<;>omega)
theorem jC:iV X (.type "tuple") (λxs H Q=>∃p ys,xs=[.ref p]/\((bX X.K H p ys/\∀l,H l=none->Q (.ref l) (upd H l (.tup ys)))\/(cL X.K H p ys/\Q (.ref p) H))):=by
 intro pins s σ H xs us Q I r h
 obtain⟨p,ys,rfl,h⟩:=h
 obtain⟨u,rfl,rx⟩:=vals1 r
 cases rx
 rcases h with⟨hq,q⟩|⟨hq,q⟩
 ·obtain⟨its,r',pl,hz⟩:=I.list hq
  have hlen:=r'.length
  refine call_tuple_list pl.isList (λh' kp=>?_) (by simp only[List.size_toArray]<;>omega)
  have I1:Inv X pins σ H { s with heap:=h' }:=I.kept (t':=s.toks) kp
  have I2:Inv X pins σ (upd H h'.objs.size (.tup ys)) { s with heap:=h'.push { cls:=.type "tuple",data:=.seq its.toArray } } :=
   I1.laid (t':=s.toks) (λb o e=>Heap.get?_push_of_some _ e) (Nat.le_refl _) (show b8 X.prog X.w _ _ _ (.tup ys) from⟨hz,its,r',IsTup.new _ _⟩)
  exact⟨.ref h'.objs.size,_,I2,rfl,q _ (I1.hok.fresh (Nat.le_refl _))⟩
 ·obtain⟨its,r',pl,hz⟩:=I.tuple hq
  exact call_tuple_same pl ⟨.ref p,H,I,rfl,q⟩
def Qh(K:PySem.W.Frag)(T:String)(x:V)(H:Hp):Prop:=match x with
 | .str _=>T= "str"
 | .int _=>T= "int"
 | .ref p=>(T= "list" /\∃xs,bX K H p xs)\/(T= "tuple" /\∃o,K.lookup p=some o/\o.cls= .type "tuple" /\o.dict=none) ∨
   (T= "dict" /\((∃kvs,H p=some (.dK kvs))\/∃kvs,H p=some (.dT kvs)))\/(T= "set" /\∃S n,H p=some (.set S n))
 |_=>False
theorem D7{pins:List (Addr×Obj)}{σ:St}{H:Hp}{s:Shared}{T:String}{x:V}{v:Value}(I:Inv X pins σ H s)(r:RelV x v)(ty:Qh X.K T x H):
  s.TypeIs v T/\∀a,v= .ref a->∃ob,s.heap.get? a=some ob/\ob.dict=none:=by
 cases x with
 |str z =>
  obtain⟨t,rfl⟩:=r
  cases (show T= "str" from ty)
  exact⟨typeIs_str s z t,λ_ e=>nomatch e⟩
 |int i =>
  obtain⟨t,rfl⟩:=r
  cases (show T= "int" from ty)
  exact⟨typeIs_int s i t,λ_ e=>nomatch e⟩
 |ref p =>
  cases r
  rcases ty with⟨rfl,xs,hq⟩|⟨rfl,o,hk,hc,hd⟩|⟨rfl,hk⟩|⟨rfl,S,n,hk⟩
  ·obtain⟨its,_,pl,_⟩:=I.list hq
   refine⟨pl.isList.typeIs,λa e=>?_⟩
   cases e
   obtain⟨o,n,e,c,hd,_⟩:=pl
   exact⟨o,e,hd⟩
  ·refine⟨⟨o,I.kK p o hk,hc⟩,λa e=>?_⟩
   cases e
   exact⟨o,I.kK _ o hk,hd⟩
  ·have z:∃o,s.heap.get? p=some o/\o.ExactDict:=by
    rcases hk with⟨kvs,hk⟩|⟨kvs,hk⟩
    ·obtain⟨_,_,_,_,o,_,_,e,ex,_⟩:=I.hok p _ hk
     exact⟨o,e,ex⟩
    ·obtain⟨_,_,_,_,o,_,_,e,ex,_⟩:=I.hok p _ hk
     exact⟨o,e,ex⟩
   obtain⟨o,e,ex⟩:=z
   refine⟨⟨o,e,ex.1⟩,λa e2=>?_⟩
   cases e2
   exact⟨o,e,ex.2.1⟩
  ·obtain⟨o,_,_,_,e,ex,_⟩:=I.hok p _ hk
   refine⟨⟨o,e,ex.1⟩,λa e2=>?_⟩
   cases e2
   exact⟨o,e,ex.2.1⟩
 |_=>exact False.elim ty
def Qv(K:PySem.W.Frag)(T:String)(r:V->List V->Hp->VK->Prop)(to:TE):TE:=λσ H Q=>to σ H λx H1=>Qh K T x H1/\r x [] H1 Q
def SY(K:PySem.W.Frag)(T:String)(r:V->List V->Hp->VK->Prop)(to:TE)(t:TA):TE:=λσ H Q=>to σ H λx H1=>Qh K T x H1/\t σ H1 λxs H2=>r x xs H2 Q
variable{o e:Expr}{es:List Expr}{to:TE}{t:TA}{name:Str}{apos cpos:Pos}{T id:String}{r:V->List V->Hp->VK->Prop}
theorem JE (pa:PlainAttrs T) (slot:Slot T name id) (hty:typeOf (.builtin id)=pure (.type "method_descriptor")) (hm:K9 X id r) (ho:PE X o to)
  (hbase:attributeBase o name X.env (eval o X.env)=eval o X.env:=by rfl) (hline:(apos.endLine==cpos.line)=true:=by rfl):PE X (.Call (.Attribute o name apos) [] [] cpos) (Qv X.K T r to):=by
 intro pins s σ H Q I h
 refine wpAny_Call_method0_late hbase hline (fK (ho pins s σ H _ I h) λv s1 ⟨x,H1,I1,r1,ty,q1⟩=>?_)
 obtain⟨h1,h2⟩:=D7 I1 r1 ty
 exact⟨T,id,pa,slot,hty,h1,h2,Calls.callWith_builtin rfl (PySem.evalArgs_none (hm pins s1 σ H1 x [] v [] Q I1 r1 .nil q1))⟩
theorem gD (pa:PlainAttrs T) (slot:Slot T name id) (hty:typeOf (.builtin id)=pure (.type "method_descriptor")) (hm:K9 X id r) (ho:PE X o to) (ha:PA X (e::es) t)
  (hbase:attributeBase o name X.env (eval o X.env)=eval o X.env:=by rfl)
  (hfew:((backTo cpos (starEach (e::es) X.env)).all (λx=>!x.1)&&(backToKw cpos (keywordEach [] X.env)).all (λx=>x.1.isSome)
   && decide ((e::es).length+([]:List Keyword).length+(if([]:List Keyword).isEmpty then 0 else 1)<30))=true:=by rfl)
  (hline:(apos.endLine==cpos.line)=true:=by rfl) (hs:starEach (e::es) X.env=(false,eval e X.env)::starEach es X.env:=by rfl) (hplain:(backTo cpos (starEach es X.env)).any (·.1)=false:=by rfl) :
  PE X (.Call (.Attribute o name apos) (e::es) [] cpos) (SY X.K T r to t):=by
 intro pins s σ H Q I h
 refine wpAny_Call_method_late hbase hfew hline rfl (fK (ho pins s σ H _ I h) λv s1 ⟨x,H1,I1,r1,ty,q1⟩=>?_)
 obtain⟨h1,h2⟩:=D7 I1 r1 ty
 refine⟨T,id,pa,slot,hty,h1,h2,?_⟩
 have hA:=ha cpos pins s1 σ H1 _ I1 q1
 rw[hs]at hA ⊢
 refine Calls.callWith_builtin (by show(false||(backTo cpos (starEach es X.env)).any (·.1))=false;rw[hplain]<;>rfl) (Calls.evalArgs_plain ?_)
 exact fK hA λus s2 ⟨vs,H2,I2,r2,q2⟩=>hm pins s2 σ H2 x vs v us Q I2 r1 r2 q2
end
end L2
namespace L2
open PySem PySem.Spec PyProof.Rows
def Og(X:Cx)(id:String)(r:V->List V->Hp->VK->Prop):Prop :=
 ∀(pins:List (Addr×Obj)) (s:Shared) (σ:St) (H:Hp) (x:V) (xs:List V) (v:Value) (us:List Value) (Q:VK),Inv X pins σ H s->RelV x v->Vals xs us->r x xs H Q →
  wpAny (model X.prog X.w) X.A (call (.builtin id) (v::us)) (EP X pins σ Q) X.xe s
theorem Vals.one:∀{x:V} {us:List Value},Vals [x] us->∃u,us=[u]/\RelV x u
 |_,_,.cons r .nil=>⟨_,rfl,r⟩
theorem Vals.zero:∀{us:List Value},Vals [] us->us=[]
 |_,.nil=>rfl
theorem Vals.eraseIdx:∀{xs:List V} {us:List Value} (i:Nat),Vals xs us->Vals (xs.eraseIdx i) (us.eraseIdx i)
 |_,_,_,.nil=>.nil
 |_,_,0,.cons _ t=>t
 |_,_,i+1,.cons r t=>.cons r (Vals.eraseIdx i t)
theorem Vals.reverse{xs:List V}{us:List Value}(h:Vals xs us):Vals xs.reverse us.reverse:=by
 induction h with
 |nil=>exact .nil
 |cons r t ih=>rw[List.reverse_cons,List.reverse_cons];exact Vals.append ih (.cons r .nil)
theorem vS{α:Type}:∀(l:List α) (i:Nat),(l.eraseIdx i).length<=l.length
 |[],_=>Nat.le_refl _
 |_::_,0=>Nat.le_succ _
 |_::r,i+1=>Nat.succ_le_succ (vS r i)
section
variable{X:Cx}{pins:List (Addr×Obj)}{σ:St}{H:Hp}{s:Shared}{l b:Addr}{xs ys zs:List V}
theorem Inv.GN{its its':List Value}{n:Nat}{f:Array Value->Array Value}{t':Nat}(I:Inv X pins σ H s)(hH:H l=some (.lst xs))
  (e:s.heap.get? l=some { cls:=.type "list",data:=.seq its.toArray n }) (hf:f its.toArray=its'.toArray) (hv:Vals ys its') (hz:ys.length<=sizeLine) (ht:s.toks<=t':=by first|exact Nat.le_refl _|exact Nat.le_succ _|assumption|omega) :
  Inv X pins σ (upd H l (.lst ys)) { s with heap:=s.heap.update l (Obj.mapSeq f),toks:=t' }:=by
 have q:=PySem.IsL.update e f
 rw[hf]at q
 refine I.write (x:=l) (e:=l) (by rw[hH];exact trivial) (.inl rfl) (λb' u hb hu=>(Heap.get?_update_other s.heap (Obj.mapSeq f) (Ne.symm hb)).trans hu) ⟨_,q⟩ ?_
 exact⟨hz,its',_,hv,q⟩
theorem Inv.E4{its:List Value}{t':Nat}(I:Inv X pins σ H s)(hv:Vals ys its)(hz:ys.length<=sizeLine)(ht:s.toks<=t':=by first|exact Nat.le_refl _|exact Nat.le_succ _|assumption|omega):
  Inv X pins σ (upd H s.heap.objs.size (.lst ys)) { s with heap:=s.heap.push { cls:=.type "list",data:=.seq its.toArray },toks:=t' } :=
 I.laid (λ_ _ q=>Heap.get?_push_of_some _ q) (Nat.le_refl _) ⟨hz,its,0,hv,Heap.get?_push_size _ rfl⟩
theorem Inv.fresh(I:Inv X pins σ H s):H s.heap.objs.size=none:=I.hok.fresh (Nat.le_refl _)
theorem Inv.AS(I:Inv X pins σ H s)(hH:H l=some (.lst xs)):xs.length<=sizeLine/\∃(its:List Value) (n:Nat),Vals xs its/\xs.length=its.length/\s.heap.get? l=some { cls:=.type "list",data:=.seq its.toArray n }:=by
 obtain⟨z,its,n,r,e⟩:=I.hok l _ hH
 exact⟨z,its,n,r,r.length,e⟩
theorem EO{n:Nat}(h:n<=sizeLine):Builtin.List.listTooLong n=false:=by
 unfold Builtin.List.listTooLong
 exact decide_eq_false (by omega)
end
section
variable{X:Cx}
def Gz:V->List V->Hp->VK->Prop:=λx vs H Q=>∃l xs y,x= .ref l/\vs=[y]/\H l=some (.lst xs)/\xs.length<sizeLine/\Q .gx (upd H l (.lst (xs++[y])))
theorem jZ:Og X "list.append" Gz:=by
 intro pins s σ H x vs v us Q I rx rv h
 obtain⟨l,xs,y,rfl,rfl,hH,hz,q⟩:=h
 cases rx
 obtain⟨u,rfl,ru⟩:=rv.one
 obtain⟨z,its,n,r,hl,e⟩:=I.AS hH
 refine call_meets F.slot_list_append ⟨_,e,rfl⟩ F.entry_list_append (F.args_list_append_2 _ _) (PySem.list_append l its.toArray n u (by rw[List.size_toArray];omega)) ⟨e,?_⟩
 refine⟨.gx,_,I.GN (its':=its++[u]) hH e (by simp) (r.append (.cons ru .nil)) ?_,rfl,q⟩
 rw[List.length_append,List.length_singleton]
 omega
def Gy:V->List V->Hp->VK->Prop:=λx vs H Q=>∃l b xs zs,x= .ref l/\vs=[.ref b]/\H l=some (.lst xs)/\H b=some (.lst zs)/\xs.length+zs.length<=sizeLine/\Q .gx (upd H l (.lst (xs++zs)))
theorem vP:Og X "list.extend" Gy:=by
 intro pins s σ H x vs v us Q I rx rv h
 obtain⟨l,b,xs,zs,rfl,rfl,hH,hB,hz,q⟩:=h
 cases rx
 obtain⟨u,rfl,ru⟩:=rv.one
 cases ru
 obtain⟨z,its,n,r,hl,e⟩:=I.AS hH
 obtain⟨z2,its2,n2,r2,hl2,e2⟩:=I.AS hB
 have hsz:its.toArray.size+its2.toArray.size<=sizeLine:=by rw[List.size_toArray,List.size_toArray];omega
 have MA:¬(!its.toArray.isEmpty&&Builtin.List.listTooLong (its.toArray.size+its2.toArray.size))=true:=by
  rw[EO hsz,Bool.and_false]
  exact Bool.false_ne_true
 refine call_meets F.slot_list_extend ⟨_,e,rfl⟩ F.entry_list_extend (F.args_list_extend_2 _ _)
  (AutoSeq1.list_extend_list_list_0 l its.toArray n b its2.toArray n2 MA (by rw[List.size_toArray];omega) (by omega)) ⟨e,e2,?_⟩
 refine⟨.gx,_,I.GN (its':=its++its2) hH e (by simp) (r.append r2) ?_,rfl,q⟩
 rw[List.length_append]
 omega
def JA:V->List V->Hp->VK->Prop:=λx vs H Q=>∃l xs i k y,x= .ref l/\vs=[.int i]/\H l=some (.lst xs)/\ -(2 ^ 63)<=i/\i<2 ^ 63/\seqIndex? i xs.length=some k/\xs[k]? =some y/\Q y (upd H l (.lst (xs.eraseIdx k)))
theorem ES:Og X "list.pop" JA:=by
 intro pins s σ H x vs v us Q I rx rv h
 obtain⟨l,xs,i,k,y,rfl,rfl,hH,h1,h2,hk,hy,q⟩:=h
 cases rx
 obtain⟨u,rfl,ru⟩:=rv.one
 obtain⟨t,rfl⟩:=ru
 obtain⟨z,its,n,r,hl,e⟩:=I.AS hH
 obtain⟨w,hw,rw'⟩:=r.get hy
 refine call_meets F.slot_list_pop ⟨_,e,rfl⟩ F.entry_list_pop (F.args_list_pop_2 _ _)
  (MeetsSeq.list_pop_at l its.toArray n i t k w (fitsIndex_both h1 h2) (by rw[List.size_toArray,←hl];exact hk) (by rw[←Array.getElem?_toList];exact hw) (by rw[List.size_toArray];omega)) ⟨e,?_⟩
 refine⟨y,_,I.GN (its':=its.eraseIdx k) hH e ?_ (r.eraseIdx k) ?_,rw',q⟩
 ·show its.toArray.eraseIdxIfInBounds k=(its.eraseIdx k).toArray
  rw[List.eraseIdxIfInBounds_toArray]
 ·have:=vS xs k
  omega
def EC:V->List V->Hp->VK->Prop:=λx vs H Q=>∃l xs,x= .ref l/\vs=[]/\H l=some (.lst xs)/\Q .gx (upd H l (.lst xs.reverse))
theorem AM:Og X "list.reverse" EC:=by
 intro pins s σ H x vs v us Q I rx rv h
 obtain⟨l,xs,rfl,rfl,hH,q⟩:=h
 cases rx
 have Vv:=rv.zero
 subst Vv
 obtain⟨z,its,n,r,hl,e⟩:=I.AS hH
 refine call_meets F.slot_list_reverse ⟨_,e,rfl⟩ F.entry_list_reverse (F.args_list_reverse_1 _) (AutoSeq1.list_reverse_list_0 l its.toArray n (by rw[List.size_toArray];omega)) ⟨e,?_⟩
 refine⟨.gx,_,I.GN (its':=its.reverse) hH e (by simp) r.reverse ?_,rfl,q⟩
 rw[List.length_reverse]
 omega
def QM:R2:=λx y H Q=>∃l b xs zs,x= .ref l/\y= .ref b/\H l=some (.lst xs)/\H b=some (.lst zs)/\xs.length+zs.length<=sizeLine/\∀p,H p=none->Q (.ref p) (upd H p (.lst (xs++zs)))
theorem m8:mL X (binaryOp .Add) QM:=by
 intro pins s σ H x y v u Q I rx ry h
 obtain⟨l,b,xs,zs,rfl,rfl,hH,hB,hz,q⟩:=h
 cases rx
 cases ry
 obtain⟨z,its,n,r,hl,e⟩:=I.AS hH
 obtain⟨z2,its2,n2,r2,hl2,e2⟩:=I.AS hB
 refine PySem.P.add_list e e2 ?_ (by rw[List.size_toArray,List.size_toArray];omega)
 have ea:its.toArray++its2.toArray=(its++its2).toArray:=by simp
 rw[ea]
 exact⟨.ref _,_,I.E4 (t':=s.toks) (r.append r2) (by rw[List.length_append];omega),rfl,q _ I.fresh⟩
end
section
variable{prog:Program}{w:World}{A:Around}{E:Value->Shared->Prop}{s:Shared}
end
section
variable{X:Cx}
end
end L2
namespace L2
open PySem PySem.Spec PyProof.Rows
section
variable{κ:Type}[DecidableEq κ]
def mH(kvs:List (κ×V))(k:κ):Option V:=(kvs.find? λkv=>decide (kv.1=k)).map (·.2)
def putK(kvs:List (κ×V))(k:κ)(v:V):List (κ×V) :=
 if(kvs.any λkv=>decide (kv.1=k))=true then kvs.map (λkv=>if kv.1=k then(kv.1,v)else kv)else kvs++[(k,v)]
theorem ir{p:κ×V}{r:List (κ×V)}{k:κ}(e:p.1=k):mH (p::r) k=some p.2:=by simp[mH,List.find?_cons,e]
theorem iu{p:κ×V}{r:List (κ×V)}{k:κ}(e:¬p.1=k):mH (p::r) k=mH r k:=by simp[mH,List.find?_cons,e]
theorem pN(k:κ):∀kvs:List (κ×V),(kvs.any λkv=>decide (kv.1=k))=(mH kvs k).isSome
 |[]=>rfl
 |p::r=>by
  rw[List.any_cons]
  by_cases e:p.1=k
  ·simp only[ir e,decide_eq_true e,Bool.true_or,Option.isSome_some]
  ·rw[iu e,decide_eq_false e,Bool.false_or];exact pN k r
theorem yy(k j:κ)(y:V):∀kvs:List (κ×V),mH (kvs.map λkv=>if kv.1=k then(kv.1,y)else kv) j=(mH kvs j).map λx=>if j=k then y else x
 |[]=>rfl
 |p::r=>by
  have ih:=yy k j y r
  rw[List.map_cons]
  by_cases h:p.1=k
  ·rw[if_pos h]
   by_cases e:p.1=j
   ·rw[ir (p:=(p.1,y)) e,ir e,Option.map_some,if_pos (e.symm.trans h)]
   ·rw[iu (p:=(p.1,y)) e,iu e,ih]
  ·rw[if_neg h]
   by_cases e:p.1=j
   ·rw[ir (p:=p) e,ir e,Option.map_some,if_neg (λz=>h (e.trans z))]
   ·rw[iu (p:=p) e,iu e,ih]
theorem vF(k j:κ)(y:V):∀kvs:List (κ×V),mH kvs k=none->mH (kvs++[(k,y)]) j=if j=k then some y else mH kvs j
 |[],_=>by
  by_cases e:k=j
  ·rw[if_pos e.symm];exact ir (p:=(k,y)) e
  ·rw[if_neg (λz=>e z.symm)];exact iu (p:=(k,y)) e
 |p::r,hn=>by
  rw[List.cons_append]
  have hk:¬p.1=k:=λz=>by rw[ir z]at hn;cases hn
  rw[iu hk]at hn
  have ih:=vF k j y r hn
  by_cases e:p.1=j
  ·rw[ir e,ir e,if_neg (λz=>hk (e.trans z))]
  ·rw[iu e,iu e,ih]
theorem D3(kvs:List (κ×V))(k j:κ)(y:V):mH (putK kvs k y) j=if j=k then some y else mH kvs j:=by
 unfold putK
 by_cases a:(kvs.any λkv=>decide (kv.1=k))=true
 ·rw[if_pos a,yy]
  rw[pN]at a
  by_cases e:j=k
  ·obtain⟨x,hx⟩:=Option.isSome_iff_exists.mp a
   rw[if_pos e,e,hx,Option.map_some,if_pos rfl]
  ·rw[if_neg e]
   cases mH kvs j with
   |none=>rfl
   |some x=>rw[Option.map_some,if_neg e]
 ·rw[if_neg a]
  refine vF k j y kvs ?_
  rw[pN]at a
  cases q:mH kvs k with
  |none=>rfl
  |some x=>rw[q]at a;exact(a rfl).elim
theorem nk(kvs:List (κ×V))(k:κ)(v:V):(putK kvs k v).length<=kvs.length+1:=by
 unfold putK
 split
 ·rw[List.length_map];omega
 ·rw[List.length_append,List.length_cons,List.length_nil];omega
theorem pK.Dl{o:Option V}{u:Option Value}(r:pK o u):o.isSome=u.isSome:=by
 cases o with
 |none=>cases u with
  |none=>rfl
  |some _=>exact(show False from r).elim
 |some _=>cases u with
  |none=>exact(show False from r).elim
  |some _=>rfl
theorem KV.any{kvs:List (κ×V)}{vs:List (κ×Value)}(r:KV kvs vs)(k:κ):(kvs.any λkv=>decide (kv.1=k))=vs.any λkv=>decide (kv.1=k):=by
 unfold KV at r
 induction r with
 |nil=>rfl
 |cons h t ih=>rw[List.any_cons,List.any_cons,ih,h.1]
theorem KV.repl{kvs:List (κ×V)}{vs:List (κ×Value)}(r:KV kvs vs)(k:κ){y:V}{u:Value}(ry:RelV y u):
  KV (kvs.map λkv=>if kv.1=k then(kv.1,y)else kv) (vs.map λkv=>if kv.1=k then(kv.1,u)else kv):=by
 unfold KV at r ⊢
 induction r with
 |nil=>exact .nil
 | @cons p q ps qs h t ih =>
  rw[List.map_cons,List.map_cons]
  refine .cons ?_ ih
  obtain⟨h1,h2⟩:=h
  by_cases e:p.1=k
  ·rw[if_pos e,if_pos (h1.symm.trans e)];exact⟨h1,ry⟩
  ·rw[if_neg e,if_neg (λz=>e (h1.trans z))];exact⟨h1,h2⟩
theorem KV.put{kvs:List (κ×V)}{vs:List (κ×Value)}(r:KV kvs vs)(k:κ){y:V}{u:Value}(ry:RelV y u):KV (putK kvs k y) (stored vs k u):=by
 unfold putK stored
 rw[r.any k]
 by_cases e:(vs.any λkv=>decide (kv.1=k))=true
 ·rw[if_pos e,if_pos e];exact r.repl k ry
 ·rw[if_neg e,if_neg e];exact Paired.snoc r ⟨rfl,ry⟩
theorem KV.length{kvs:List (κ×V)}{vs:List (κ×Value)}(r:KV kvs vs):kvs.length=vs.length:=Paired.length r
end
theorem HV{P:Program}{w:World}{k:Key}{u:Value}(r:RelV (kV k) u):(gT P w).is k u=true:=by
 cases k with
 |inl i=>obtain⟨t,e⟩:=(show ∃t,u=Value.int i t from r);subst e;exact zd P w i t
 |inr x=>obtain⟨t,e⟩:=(show ∃t,u=Value.str x t from r);subst e;exact zb P w x t
theorem vW{P:Program}{w:World}:∀{ks:List Key} {us:List Value},Vals (ks.map kV) us->ItemsAre (gT P w) ks us
 |[],_,r=>by rw[List.map_nil]at r;cases r;exact .nil
 |k::ks,_,r=>by
  rw[List.map_cons]at r
  cases r with
  |cons h t=>exact .cons (HV h) (vW t)
abbrev KT(H:Hp):List (List Key×V)->List (List Key×Addr×Value)->Prop:=Paired λp q=>p.1=q.1/\H q.2.1=some (.tup (p.1.map kV))/\RelV p.2 q.2.2
theorem KT.val{H:Hp}{kvs:List (List Key×V)}{xs:List (List Key×Addr×Value)}(r:KT H kvs xs)(k:List Key):pK (mH kvs k) ((atKey xs k).map (·.2)):=by
 induction r with
 |nil=>exact True.intro
 | @cons p q ps qs h t ih =>
  obtain⟨h1,_,h2⟩:=h
  by_cases e:p.1=k
  ·have e':q.1=k:=h1.symm.trans e
   have b:atKey (q::qs) k=some q.2:=by simp[atKey,List.find?_cons,e']
   rw[ir e,b];exact h2
  ·have e':¬q.1=k:=λz=>e (h1.trans z)
   have b:atKey (q::qs) k=atKey qs k:=by simp[atKey,List.find?_cons,e']
   rw[iu e,b];exact ih
theorem KT.repl{H:Hp}{kvs:List (List Key×V)}{xs:List (List Key×Addr×Value)}(r:KT H kvs xs)(k:List Key){y:V}{u:Value}(ry:RelV y u):
  KT H (kvs.map λkv=>if kv.1=k then(kv.1,y)else kv) (xs.map (putAt k u)):=by
 induction r with
 |nil=>exact .nil
 | @cons p q ps qs h t ih =>
  rw[List.map_cons,List.map_cons]
  refine .cons ?_ ih
  obtain⟨h1,h2,h3⟩:=h
  unfold putAt
  by_cases e:p.1=k
  ·rw[if_pos e,if_pos (h1.symm.trans e)];exact⟨h1,h2,ry⟩
  ·rw[if_neg e,if_neg (λz=>e (h1.trans z))];exact⟨h1,h2,h3⟩
theorem KT.put{H:Hp}{kvs:List (List Key×V)}{xs:List (List Key×Addr×Value)}(r:KT H kvs xs)(k:List Key){b:Addr}{y:V}{u:Value}(hb:H b=some (.tup (k.map kV)))(ry:RelV y u):
  KT H (putK kvs k y) (storedH xs k b u):=by
 have e:(kvs.any λkv=>decide (kv.1=k))=(atKey xs k).isSome:=by
  rw[pN,(r.val k).Dl,Option.isSome_map]
 unfold putK storedH
 rw[e]
 by_cases q:(atKey xs k).isSome=true
 ·rw[if_pos q,if_pos q];exact r.repl k ry
 ·rw[if_neg q,if_neg q];exact Paired.snoc r ⟨rfl,hb,ry⟩
theorem KT.keeps{H H':Hp}{kvs:List (List Key×V)}{xs:List (List Key×Addr×Value)}(r:KT H kvs xs)(ht:∀b ys,H b=some (.tup ys)->H' b=some (.tup ys)):KT H' kvs xs :=
 Paired.iW r λ_ _ z=>⟨z.1,ht _ _ z.2.1,z.2.2⟩
section
variable{P:Program}{w:World}{H:Hp}{h:Heap}{a:Addr}
theorem HJ{u:HO}(ok:lg P w H h)(e:Rd H a u):b8 P w H h a u:=e.ok ok
theorem MY{kvs:List (Key×V)}(ok:lg P w H h)(e:Rd H a (.dK kvs)):kvs.length<=sizeLine/\(a==sysModules)=false/\∃vs,KV kvs vs/\h.DictOf (gT P w) a vs :=
 show b8 P w H h a (.dK kvs) from HJ ok e
theorem MZ{kvs:List (Key×V)}(ok:lg P w H h)(e:H a=some (.dK kvs)):kvs.length<=sizeLine/\(a==sysModules)=false/\∃vs,KV kvs vs/\h.DictOf (gT P w) a vs:=MY ok (.inl e)
theorem E9{ks:List Key}(ok:lg P w H h)(e:H a=some (.tup (ks.map kV))):(tupleKind (gT P w)).is h ks a:=by
 obtain⟨_,its,r,o,h1,h2,n,h3⟩:=(show b8 P w H h a (.tup (ks.map kV)) from ok a _ e)
 exact⟨o,its.toArray,n,h1,h2,h3,by simpa using vW r⟩
theorem MW{kvs:List (List Key×V)}(ok:lg P w H h)(e:Rd H a (.dT kvs)):kvs.length<=sizeLine/\(a==sysModules)=false ∧
  ∃xs,KT H kvs xs/\h.DictOfH (tupleKind (gT P w)) a xs:=by
 obtain⟨z,y,xs,r,o,es,ep,h1,h2,h3,h4,h5⟩:=(show b8 P w H h a (.dT kvs) from HJ ok e)
 refine⟨z,y,xs,r,o,es,ep,h1,h2,h3,h4,λx hx=>?_,h5⟩
 have all:∀{l:List (List Key×V)} {m:List (List Key×Addr×Value)},KT H l m->∀x∈m,(tupleKind (gT P w)).is h x.1 x.2.1:=by
  intro l m q
  induction q with
  |nil=>intro x hx;exact nomatch hx
  | @cons p q ps qs hq t ih =>
   intro x hx
   rcases List.mem_cons.mp hx with e|hx
   ·subst e
    exact E9 ok (by rw[←hq.1];exact hq.2.1)
   ·exact ih x hx
 exact all r x hx
theorem MX{kvs:List (List Key×V)}(ok:lg P w H h)(e:H a=some (.dT kvs)):kvs.length<=sizeLine/\(a==sysModules)=false ∧
  ∃xs,KT H kvs xs/\h.DictOfH (tupleKind (gT P w)) a xs:=MW ok (.inl e)
end
def FY(H:Hp)(a:Addr)(y v:V)(H':Hp):Prop :=
 (∃kvs k,H a=some (.dK kvs)/\y=kV k/\kvs.length<sizeLine/\H'=upd H a (.dK (putK kvs k v))) ∨
 ∃kvs k b,H a=some (.dT kvs)/\y= .ref b/\H b=some (.tup (k.map kV))/\kvs.length<sizeLine/\H'=upd H a (.dT (putK kvs k v))
theorem FY.t{H:Hp}{a b:Addr}{kvs:List (List Key×V)}{k:List Key}{v:V}(e:H a=some (.dT kvs))(eb:H b=some (.tup (k.map kV)))(hl:kvs.length<sizeLine):
  FY H a (.ref b) v (upd H a (.dT (putK kvs k v))):=.inr ⟨kvs,k,b,e,rfl,eb,hl,rfl⟩
section
variable{X:Cx}{pins:List (Addr×Obj)}{σ:St}{H:Hp}{s:Shared}{a:Addr}{y v:V}{u r:Value}{o:Option V}{A:Around}{E:Value->Shared->Prop}
theorem Inv.big(I:Inv X pins σ H s):sysModules<s.heap.objs.size:=by
 have h:mainGlobals<s.heap.objs.size:=(I.mod.glob.keeps I.bk).lt
 exact Nat.lt_trans (by decide) h
theorem Cs{h':Heap}{t':Nat}{ob:HO}(I:Inv X pins σ H s)(mu:Nh (H a))(hs:Heap.SameBut a s.heap h')(he:∃q,h'.get? a=some q)(new:b8 X.prog X.w (upd H a ob) h' a ob)(ht:s.toks<=t':=by first|exact Nat.le_refl _|exact Nat.le_succ _|assumption|omega):
  Inv X pins σ (upd H a ob) { s with heap:=h',toks:=t' } :=
 I.write (x:=a) (e:=a) mu (.inl rfl) (λb q hb z=>(hs.2 b hb).trans z) he new
theorem Kw{P:Program}{w:World}{H':Hp}{h':Heap}{kvs:List (Key×V)}{vs:List (Key×Value)}(z:kvs.length<=sizeLine)(hd:(a==sysModules)=false)(rel:KV kvs vs)(dd:h'.DictOf (gT P w) a vs):
  b8 P w H' h' a (.dK kvs):=⟨z,hd,vs,rel,dd⟩
theorem DA{H':Hp}{Q:Unit->Shared->Prop}(hu:A.units+1<cLine)(I:Inv X pins σ H s)(g:FY H a y v H')(ry:RelV y u)(rv:RelV v r)(h:∀s',Inv X pins σ H' s'->Q () s'):
  wpAny (model X.prog X.w) A (setItem (.ref a) u r) Q E s:=by
 rcases g with⟨kvs,k,e,ey,l,eH⟩|⟨kvs,k,b,e,ey,eb,l,eH⟩
 ·subst ey eH
  obtain⟨z,hd,vs,rel,dd⟩:=MZ I.hok e
  have hz:vs.length<=sizeLine:=by rw[←rel.length];exact z
  have hl:(putK kvs k v).length<=sizeLine:=by have:=nk kvs k v;omega
  refine wpAny_setItem_pairs (hsz:=hz) (HV ry) dd λh' Oc hs=>h _ ?_
  have he:∃q,h'.get? a=some q:=let ⟨q,_,_,hq,_⟩:=Oc;⟨q,hq⟩
  exact Cs I (by rw[e];exact True.intro) hs he (Kw hl hd (rel.put k rv) Oc)
 ·subst ey eH
  cases (show u=Value.ref b from ry)
  obtain⟨z,hd,xs,rel,dd⟩:=MX I.hok e
  have hz:xs.length<=sizeLine:=by rw[←Paired.length rel];exact z
  have hl:(putK kvs k v).length<=sizeLine:=by have:=nk kvs k v;omega
  refine wpAny_setItem_heap (hsz:=hz) (tupleKind_room_in1 hu) (E9 I.hok eb) dd λh' Oc hs=>h _ ?_
  obtain⟨q,es,ep,hq,h2,h3,h4,_,h5⟩:=Oc
  refine Cs I (by rw[e];exact True.intro) hs ⟨q,hq⟩ ⟨hl,hd,_,(rel.put k eb rv).keeps λc ys ec=>?_,q,es,ep,hq,h2,h3,h4,h5⟩
  rw[az (t8 ec e (λz=>nomatch z))]
  exact ec
end
section
variable{X:Cx}{pins:List (Addr×Obj)}{σ:St}{H:Hp}{s:Shared}{a:Addr}{kvs:List (Key×V)}{k:Key}{u:Value}{A:Around}{E:Value->Shared->Prop}
end
def LD(td ty tv:TE):TS:=λD σ H=>tv σ H λv H1=>td σ H1 λx H2=>ty σ H2 λy H3=>∃a H4,x= .ref a/\FY H3 a y v H4/\D.nx σ H4
section
variable{X:Cx}{o i e value:Expr}{pos pos' tpos:Pos}{td ty tv:TE}
theorem GA(hu:X.A.units+1<cLine)(ho:PE X o td)(hi:PE X i ty)(hv:PE X value tv)(hs:swapsWith value (some (.Subscript o i pos')) pos.line X.env=pure false):
  PS X (.Assign [.Subscript o i pos'] value pos) (LD td ty tv):=by
 intro pins s σ H D I h
 refine wpAny_Assign_Subscript (fK (hv pins s σ H _ I h) λr s1 ⟨v,H1,I1,rv,q1⟩=>fK (ho pins s1 σ H1 _ I1 q1) λu s2 ⟨x,H2,I2,rx,q2⟩=>fK (hi pins s2 σ H2 _ I2 q2) λiv s3 ⟨y,H3,I3,ry,a,H4,ex,g,q3⟩=>?_) hs
 subst ex
 obtain rfl:u=Value.ref a:=rx
 exact DA hu I3 g ry rv λs4 I4=>⟨σ,H4,I4,q3⟩
end
theorem FF{P:Program}{w:World}{H:Hp}(h:Heap)(hb:sysModules<h.objs.size):b8 P w H (h.push { cls:=.type "dict",data:=.dict #[] }) h.objs.size (.dT []) :=
 ⟨Nat.zero_le _,beq_eq_false_iff_ne.mpr (Ne.symm (Nat.ne_of_lt hb)),[],.nil,_,#[],0,Heap.get?_push_size _ rfl,⟨rfl,rfl,rfl⟩,rfl,rfl,List.nodup_nil⟩
def Jk:TE:=λ_ H Q=>∀p,H p=none->Q (.ref p) (upd H p (.dT []))
section
variable{X:Cx}{pos:Pos}
theorem EK:PE X (.Dict [] [] pos) Jk:=λpins s σ H Q I h =>
 wpAny_Dict_empty ⟨.ref s.heap.objs.size,_,I.laid (a:=s.heap.objs.size) (o:=.dT []) (t':=s.toks) (λ_ _ q=>Heap.get?_push_of_some _ q) (Nat.le_refl _) (FF s.heap I.big),rfl,h _ (I.hok.fresh (Nat.le_refl _))⟩
end
section
variable{X:Cx}{pins:List (Addr×Obj)}{σ:St}{H:Hp}{s:Shared}{a:Addr}{y d:V}{u r:Value}{o:Option V}{A:Around}{E:Value->Shared->Prop}
end
section
variable{X:Cx}{o e f:Expr}{apos cpos:Pos}{td ty tx:TE}
end
section
variable{X:Cx}{pins:List (Addr×Obj)}{σ:St}{H:Hp}{s:Shared}{a:Addr}{kvs:List (Key×V)}{A:Around}{E:Value->Shared->Prop}
end
section
variable{X:Cx}{pins:List (Addr×Obj)}{σ:St}{H:Hp}{s:Shared}{a:Addr}{y:V}{u:Value}{A:Around}{E:Value->Shared->Prop}
end
end L2
namespace SN
open PySem PySem.W PySem.Calls PyProof.Rows
theorem rZ{P:Params}{h:Heap}:∀(ns:List Int) (vs:List Value),WellAll P h vs (ns.map WData.int)->IntsAre vs ns:=by
 intro ns
 induction ns with
 |nil =>
  intro vs w
  rw[List.map_nil]at w
  cases w
  exact .nil
 |cons n ns ih =>
  intro vs w
  rw[List.map_cons]at w
  cases w with
  |cons a b =>
   cases a
   exact .cons _ _ (ih _ b)
theorem CM{l:OpenLaw}{n:Nat}(hn:l.most=some n){P:Params}{h:Heap}{args:List WData}{vals:List Value}
  (hpre:l.row.toRowW.claim.pre args=true) (hwl:WellAll P h vals args) :
  ∃a vs ns,vals=[Value.ref a]/\args=[WData.list (ns.map WData.int)]/\h.get? a=some { cls:=.type "list",data:=.seq vs.toArray }/\IntsAre vs ns/\ns.length<=n:=by
 have hsh:WShape.hasAll [] args [.list .int]=true:=(pre_splitW hpre).1
 have hc:l.pre.holds [] { args:=args }=true:=(pre_splitW hpre).2
 obtain⟨d,r,rfl,h1,h2⟩:=hasAllW_cons hsh
 obtain rfl:=hasAllW_nil h2
 obtain⟨xs,rfl,h3⟩:=hasW_list h1
 obtain⟨ns,rfl⟩:=items_int h3
 have hlen:ns.length<=n:=by
  unfold OpenLaw.pre at hc
  have h4:(WTm.not (.lt (.lit (.int (n:Int))) (.len (.arg 0)))).holds [] { args:=[.list (ns.map .int)] }=true:=by
   have h4:=(holds_andW hc).1
   rw[hn]at h4
   exact h4
  have h5:=condW_of h4 (w_not (w_lt w_lit (w_len_list (w_arg rfl))))
  rw[List.length_map]at h5
  refine Nat.le_of_not_lt λq=>?_
  have q':(n:Int)<((ns.length:Nat):Int):=by omega
  first
   |(rw[decide_eq_true q']at h5;exact absurd h5 (by decide))
   |(simp at h5;omega)
 cases hwl with
 |cons w1 w2 =>
  cases w2
  cases w1 with
  |list ho hall=>exact⟨_,_,ns,rfl,rfl,ho,rZ ns _ hall,hlen⟩
theorem CU(l:OpenLaw)(args:List WData):l.row.toRowW.claim.post args (.bool true) args=true :=
 postW_of (r:=l.row.toRowW) (X:=(true==true))
  (show WShape.has [] (.bool true) .bool=true by first|rfl|decide|simp[WShape.has,WShape.arms,WShape.armsAll])
  (show(WTm.eq .res (.lit (.bool true))).value [] { args:=args,res:=some (.bool true),after:=args }=some (.bool (true==true)) from w_eq_bool (w_res rfl) w_lit) rfl
section
variable{prog:Program}{w:World}{A:Around}{E:Value->Shared->Prop}{s:Shared}{K:Frag}
end
end SN
namespace L2
open PySem PySem.Spec PyProof.Rows
theorem vE:∀{vs:List Value} {ns:List Int},IntsAre vs ns->Vals (ns.map V.int) vs
 |_,_,.nil=>.nil
 |_,_,.cons n t h=>.cons ⟨t,rfl⟩ (vE h)
def KL(H:Hp):Prop:=∀b,H b=none\/∃o xs,H b=some (.A4 o (.lst xs))
theorem E6{P:Program}{w:World}{K:PySem.W.Frag}{mg mb:Str->Option Value}{CX:yu}{k:Nat}{fa a:Addr}{fd:FuncData}{x:Str}{sp:Sp}{s₁:Shared}{vs:List Value}{ns:List Int}
  (KX:K.In s₁.heap) (hns:s₁.heap.Ns mainGlobals mg) (hb:s₁.heap.Ns builtinsNs mb) (G6:∀x:Str,x≠ "__name__" ->mb x=bootBuiltins x) (hlim:s₁.heap.NoLimit) (hg:s₁.gens= #[]) (htk:zP mg s₁.toks)
  (ha:s₁.heap.get? a=some { cls:=.type "list",data:=.seq vs.toArray }) (hi:IntsAre vs ns) (hl:ns.length<=sizeLine) (hr:jd k callerA)
  (F:∀base:Heap,K.In base->base.Ns mainGlobals mg->aW P w K mg base CX k fa fd [x] sp) (hbind:∀(s:Shared) (u:Value),BindsTo s fd ⟨[u],[]⟩ [(x,u)])
  (zw:∀H:Hp,KL H->bX K H a (ns.map V.int)->sp [.ref a] H (λv _=>v= .bl true) λ_ _ _=>False)
  (Sf:∀H e s',CX [] H s₁ (λ_ _ _=>False) e s'->False) :
  codeAny (model P w) callerA (.call (.ref fa) ⟨[.ref a],[]⟩) (λr s'=>r= .ok (.ret (.bool true))/\OldK s₁.heap s'.heap/\s'.os=s₁.os/\AllBare s'.gens) s₁:=by
 have rv:=vE hi
 have Q7:=hi.length
 have core:∀H:Hp,KL H->bX K H a (ns.map V.int)->lg P w H s₁.heap->(∀b,H b≠none->b=a)->(H a≠none->K.lookup a=none) →
   codeAny (model P w) callerA (.call (.ref fa) ⟨[.ref a],[]⟩) (λr s'=>r= .ok (.ret (.bool true))/\OldK s₁.heap s'.heap/\s'.os=s₁.os/\AllBare s'.gens) s₁:=by
  intro H hO hS hok hA hK
  have CC:∀{b:Addr} {o:Obj},s₁.heap.get? b=some o->H b=none->(xD s₁.heap H).get? b=some o:=λe n=>Fj e n
  have GI:∀{b:Addr} {o:Obj} {es:Array DictEntry} {ep:Nat},s₁.heap.get? b=some o->o.data= .dict es ep->H b=none:=λ{b o es ep} e d=>by
   cases q:H b with
   |none=>rfl
   |some u =>
    have e':b=a:=hA b (by rw[q];simp)
    subst e'
    rw[ha]at e;cases e
    have d':Data.seq vs.toArray _=Data.dict es ep:=d
    cases d'
  have NJ:∀{b:Addr} {m:Str->Option Value},s₁.heap.Ns b m->(xD s₁.heap H).Ns b m:=λ{b m} ⟨o,es,ep,e,d,r⟩=>⟨o,es,ep,CC e (GI e d),d,r⟩
  have Ub:K.In (xD s₁.heap H):=λb o e=>CC (KX b o e) (by
   cases q:H b with
   |none=>rfl
   |some u =>
    have e':b=a:=hA b (by rw[q];simp)
    subst e'
    rw[hK (by rw[q];simp)]at e;cases e)
  have hM:Mod K mg (xD s₁.heap H):=⟨Ub,NJ hns,⟨mb,NJ hb,G6⟩,let ⟨mc,h1,h2⟩:=hlim;⟨mc,NJ h1,h2⟩⟩
  have e0:yl P w K mg (xD s₁.heap H) callerA [] s₁ H:=⟨rfl,hM,λb o e=>GH e,Nat.le_of_eq (Dt _ _),trivial,λb hb=>absurd (show b∈([]:List Addr) from hb) (by simp),hok,.of_eq hg,htk⟩
  refine codeAny_mono ((F _ Ub (NJ hns)).run callerA [] s₁ H ⟨[.ref a],[]⟩ [.ref a] [.ref a] _ _ hr e0 (hbind s₁ (.ref a)) (.cons rfl .nil) (zw H hO hS)) λr s' h=>?_
  cases r with
  |error e=>exact(Sf H e s' h).elim
  |ok fl =>
   cases fl with
   |next=>exact False.elim h
   |brk=>exact False.elim h
   |cont=>exact False.elim h
   |ret u =>
    obtain⟨v,H',os,bare,un,RC,r',_,q⟩:=h
    have q':v= .bl true:=q
    subst q'
    obtain rfl:u=Value.bool true:=r'
    refine⟨rfl,OldK.of_keep λb o e=>?_,os,bare⟩
    cases q:H b with
    |none=>exact un.keep b o e q (by intro z;exact absurd (show b∈([]:List Addr) from z) (by simp)) (by simp)
    |some u =>
     rcases hO b with z|⟨ob,xs,z⟩
     ·rw[q]at z;cases z
     ·have z2:=un.pG b ob _ z
      obtain⟨e1,_⟩:=hok b _ z
      obtain⟨e2,_⟩:=RC b _ z2
      rw[e]at e1;cases e1
      exact e2
 cases hk:K.lookup a with
 |some o =>
  have e:=KX a o hk
  rw[ha]at e
  cases e
  refine core (λ_=>none) (λ_=>.inl rfl) (.inr ⟨_,vs.toArray,_,hk,rfl,rfl,rfl,by rw[List.size_toArray,Q7];exact hl,by simpa using rv⟩) (λb u z=>by have z':(none:Option HO)=some u:=z;cases z') (λb z=>absurd rfl z) λz=>absurd rfl z
 |none =>
  refine core (λb=>if b=a then some (.A4 { cls:=.type "list",data:=.seq vs.toArray } (.lst (ns.map V.int)))else none) (λb=>?_) (.inl (.inr ⟨{ cls:=.type "list",data:=.seq vs.toArray },if_pos rfl⟩)) (λb u z=>?_) (λb z=>?_) λ_=>hk
  ·by_cases hb:b=a
   ·exact .inr ⟨_,_,if_pos hb⟩
   ·exact .inl (if_neg hb)
  ·by_cases hb:b=a
   ·have z':=(if_pos hb).symm.trans z
    cases z'
    subst hb
    exact⟨ha,by rw[List.length_map];exact hl,vs,_,rv,ha⟩
   ·have z':=(if_neg hb).symm.trans z
    cases z'
  ·by_cases hb:b=a
   ·exact hb
   ·exact absurd (if_neg hb) z
end L2
namespace L2
open PySem PySem.Spec PyProof.Rows
end L2
namespace L2
open PySem PySem.Spec PyProof.Rows
def inClass(s:Stmt)(j:Nat):Stmt:=match s with
 | .ClassDef _ _ _ body _ _ _ _ _ _ _=>body.getD j (.Pass ⟨0,0,0,0⟩)
 |_=>.Pass ⟨0,0,0,0⟩
def iG(s:Stmt):Arguments:=match s with
 | .FunctionDef _ a _ _ _ _ _ _ _ _=>a
 |_=>{ posonlyargs:=[],args:=[],vararg:=none,kwonlyargs:=[],kw_defaults:=[],kwarg:=none,defaults:=[] }
def fW(s:Stmt):List Stmt:=match s with
 | .FunctionDef _ _ b _ _ _ _ _ _ _=>b
 |_=>[]
def aC(s:Stmt):Scope:=match s with
 | .FunctionDef _ _ _ _ _ _ sc _ _ _=>sc
 |_=>{ kind:=.function,names:=[],isGenerator:=false,isCoroutine:=false }
abbrev ee:yu:=λ_ _ _ _ _ _=>False
abbrev E0:XK:=λ_ _ _=>False
theorem bB{X:Cx}:Passes ee X E0:=λ_ _ _ _ _ _ _ h=>h.elim
structure DT(K:PySem.W.Frag)(x qual:Str)(st:Stmt)(f:Addr)(fd:FuncData):Prop where
 ex:∃(oc:Value) (od:Option Addr) (kV doc pm:Value) (an:Option Addr) (cdv ct:Value) (osl:Array (Option Value)),
  fd=PySem.W.fnOf x qual (iG st) (fW st) (aC st) .none kV doc pm an cdv ct/\K.lookup f=some ⟨oc,od,.func fd,osl⟩/\PySem.W.codeIn K cdv qual=true
 kp:PySem.W.keepIn K (.ref f)=true
section
variable{P:Program}{w:World}{K:PySem.W.Frag}{mg:Str->Option Value}{base:Heap}
theorem DT.ok{x qual:Str}{st:Stmt}{f:Addr}{fd:FuncData}{N ps:List Str}{k:Nat}{sp:Sp}(F:DT K x qual st f fd)(S:aP N ps (aC st))(len:∀vs H Q E,sp vs H Q E->vs.length=ps.length)
  (hbody:∀(cdv:Value) (A:Around) (outer:List Env) (s:Shared) (H:Hp) (vs:List V) (Q:VK) (E:XK),jd k (A.deeper (envOfC qual (aC st) s.heap.objs.size f cdv))->sp vs H Q E →
   ∃t,vt (uH ee P w K mg base N qual (aC st) f cdv A outer s H E).LY (fW st) t/\t { nx:=λ_ H'=>Q .gx H',rt:=Q } (start N vs) H):aW P w K mg base ee (k+1) f fd ps sp:=by
 obtain⟨oc,od,kV,doc,pm,an,cdv,ct,osl,rfl,lk,hcd⟩:=F.ex
 refine Im lk hcd S len λA outer s H vs Q E hr zw=>?_
 obtain⟨t,h,q⟩:=hbody cdv A outer s H vs Q E hr zw
 exact⟨t,h.LY,q⟩
theorem DT.binds{x qual:Str}{st:Stmt}{f:Addr}{fd:FuncData}{ps:List Str}(F:DT K x qual st f fd)
  (h:∀(kV doc pm:Value) (an:Option Addr) (cdv ct:Value) (us:List Value),us.length=ps.length->bindArgs (PySem.W.fnOf x qual (iG st) (fW st) (aC st) .none kV doc pm an cdv ct) ⟨us,[]⟩=pure (ps.zip us)):Binds K fd ps []:=by
 obtain⟨oc,od,kV,doc,pm,an,cdv,ct,osl,rfl,lk,hcd⟩:=F.ex
 exact .all (h kV doc pm an cdv ct)
theorem uy{x qual:Str}{st:Stmt}{f:Addr}{oc:Value}{od an:Option Addr}{osl:Array (Option Value)}{kV doc pm cdv ct:Value}(l:K.lookup f=some ⟨oc,od,.func (PySem.W.fnOf x qual (iG st) (fW st) (aC st) .none kV doc pm an cdv ct),osl⟩)
  (c:PySem.W.codeIn K cdv qual=true) (k:PySem.W.keepIn K (.ref f)=true):DT K x qual st f (PySem.W.fnOf x qual (iG st) (fW st) (aC st) .none kV doc pm an cdv ct):=⟨⟨oc,od,kV,doc,pm,an,cdv,ct,osl,rfl,l,c⟩,k⟩
end
theorem Ia{A:Around}{k:Nat}(hr:jd k A):A.units+1<cLine:=Nat.lt_of_le_of_lt (Nat.add_le_add_left (by decide:1<=64) _) hr.units
section
variable{X:Cx}
theorem pv (i:Nat) {x:Str} {pos:Pos} (hN:X.N[i]? =some x:=by rfl) (hv:Oe X.env.scope x:=by first|exact Or.inl rfl|exact Or.inr (Or.inl rfl)|exact Or.inr (Or.inr rfl)) (hd:(x==("__debug__" :Str))=false:=by decide)
  (hcd:(x==("__classdict__" :Str))=false:=by decide):PE X (.Name x pos) (Gk i):=JC hN hv hd hcd
end
theorem jN{A B:Prop}(h:B):if false=true then A else B:=by
 rw[if_neg Bool.false_ne_true]
 exact h
theorem mh{A B:Prop}(h:A):if true=true then A else B:=by
 rw[if_pos rfl]
 exact h
def ai(H H':Hp):Prop:=∀b o,H b=some o->H' b=some o
theorem ai.refl(H:Hp):ai H H:=λ_ _ h=>h
theorem ai.trans{H H1 H2:Hp}(a:ai H H1)(b:ai H1 H2):ai H H2:=λc o h=>b c o (a c o h)
theorem ai.free{H H':Hp}(e:ai H H'){l:Addr}(h:H' l=Option.none):H l=Option.none:=by
 cases q:H l with
 |none=>rfl
 |some o =>
  rw[e l o q]at h
  cases h
theorem ai.seq{K:PySem.W.Frag}{H H':Hp}{a:Addr}{xs:List V}(e:ai H H')(h:bX K H a xs):bX K H' a xs:=by
 rcases h with(h|⟨o,h⟩)|h
 ·exact .inl (.inl (e _ _ h))
 ·exact .inl (.inr ⟨o,e _ _ h⟩)
 ·exact .inr h
section
variable{κ:Type}[DecidableEq κ]
end
end L2
namespace GP
theorem GU{α:Type}:∀{l:List α},l.length=1->∃a,l=[a]
 |[a],_=>⟨a,rfl⟩
theorem zu{α:Type}{n:Nat}:∀{l:List α},l.length=n+1->∃a r,l=a::r/\r.length=n
 |a::r,h=>⟨a,r,rfl,Nat.succ.inj h⟩
theorem GS{α:Type}{l:List α}(h:l.length=2):∃a b,l=[a,b]:=by
 obtain⟨a,r,rfl,k⟩:=zu h
 obtain⟨b,rfl⟩:=GU k
 exact⟨a,b,rfl⟩
theorem JM{α:Type}{l:List α}(h:l.length=3):∃a b c,l=[a,b,c]:=by
 obtain⟨a,r,rfl,k⟩:=zu h
 obtain⟨b,c,rfl⟩:=GS k
 exact⟨a,b,c,rfl⟩
theorem JL{α:Type}{l:List α}(h:l.length=4):∃a b c d,l=[a,b,c,d]:=by
 obtain⟨a,r,rfl,k⟩:=zu h
 obtain⟨b,c,d,rfl⟩:=JM k
 exact⟨a,b,c,d,rfl⟩
theorem GR{α:Type}{l:List α}(h:l.length=5):∃a b c d e,l=[a,b,c,d,e]:=by
 obtain⟨a,r,rfl,k⟩:=zu h
 obtain⟨b,c,d,e,rfl⟩:=JL k
 exact⟨a,b,c,d,e,rfl⟩
theorem Mc{α:Type}{l:List α}(h:l.length=6):∃a b c d e f,l=[a,b,c,d,e,f]:=by
 obtain⟨a,r,rfl,k⟩:=zu h
 obtain⟨b,c,d,e,f,rfl⟩:=GR k
 exact⟨a,b,c,d,e,f,rfl⟩
end GP
namespace L2
open PySem PySem.Spec PyProof.Rows
section
variable{X:Cx}
theorem rQ:iV X (.builtin "isinstance") (λxs H Q=>∃x n t b,xs=[x,.ty n]/\pJ X.K H x t/\PySem.W.kitOne X.K t (.type n)=some b/\Q (.bl b) H):=by
 intro pins s σ H xs us Q I r h
 obtain⟨x,n,t,b,rfl,ty,e,q⟩:=h
 obtain⟨u,w',rfl,rx,rn⟩:=vals2 r
 cases rn
 exact TK.b9 (Nat.le_refl _) (vX I rx ty e λtk hup=>⟨.bl b,H,I.tok _,rfl,q⟩)
theorem wz:∀{bs:List Bool} {us:List Value},Vals (bs.map V.bl) us->∀(i:Nat) (v:Value),us[i]? =some v->∃b,bs[i]? =some b/\v= .bool b
 |[],_,r,i,v,e=>by
  cases r
  simp at e
 |b::bs,_,r,i,v,e=>by
  cases r with
  |cons r1 r2 =>
   cases i with
   |zero =>
    simp at e
    subst e
    exact⟨b,rfl,r1⟩
   |succ i =>
    obtain⟨c,h1,h2⟩:=wz r2 i v (by simpa using e)
    exact⟨c,by simpa using h1,h2⟩
theorem Au(bs:List Bool):((List.range bs.length).all λi=>(bs[i]?).getD true)=bs.all id:=by
 rw[Bool.eq_iff_iff,List.all_eq_true,List.all_eq_true]
 constructor
 ·intro h b hb
  obtain⟨i,hi,rfl⟩:=List.getElem_of_mem hb
  have:=h i (List.mem_range.mpr hi)
  simpa only[List.getElem?_eq_getElem hi,Option.getD_some,id]using this
 ·intro h i hi
  have hi':=List.mem_range.mp hi
  simpa only[List.getElem?_eq_getElem hi',Option.getD_some,id]using h _ (List.getElem_mem hi')
theorem kM(hc:X.calm=true):iV X (.builtin "all") (λxs H Q=>∃(l:Addr) (bs:List Bool),xs=[.ref l]/\bX X.K H l (bs.map V.bl)/\Q (.bl (bs.all id)) H):=by
 intro pins s σ H xs us Q I r h
 obtain⟨l,bs,rfl,hl,q⟩:=h
 obtain⟨u,rfl,ru⟩:=vals1 r
 cases ru
 obtain⟨its,rv,p,hz⟩:=I.list hl
 have pl:s.heap.IsList l its.toArray:=p.isList
 have hlt:l<s.heap.objs.size:=by obtain⟨_,e,_⟩:=pl;exact Heap.lt_size e
 have hlen:bs.length=its.length:=by rw[←rv.length,List.length_map]
 refine TK.b9 (Nat.le_refl s.toks) ?_
 refine call_all_walk (wpAny_pyIter_list pl ?_)
 refine⟨s.heap.objs.size,[s.heap.objs.size,l],[s.heap.objs.size],its.toArray.size,_,_,λi=>(bs[i]?).getD true,rfl,Walks.list (A:=X.A.in1) (I.ok.hd hc) _ l (Nat.ne_of_lt hlt) its.toArray,
  ⟨⟨_,Heap.get?_push_size _ rfl,rfl,rfl⟩,pl.push _⟩,λi v s' Q' E' hP hQ=>?_,λh' tk hk hup=>?_⟩
 ·obtain⟨b,e,rfl⟩:=wz rv i v (by simpa using hP)
  simp only[e,Option.getD_some]at hQ
  exact wpAny_truthy_bool hQ
 ·have e:((List.range its.toArray.size).all λi=>(bs[i]?).getD true)=bs.all id:=by
   rw[List.size_toArray,←hlen];exact Au bs
  rw[e]
  refine⟨.bl (bs.all id),H,I.kept (t':=tk) (λb x e=>hk b x (λhm=>?_) (Heap.get?_push_of_some _ e)),rfl,q⟩
  rw[List.mem_singleton.mp hm]at e
  exact Nat.lt_irrefl _ (Heap.lt_size e)
end
theorem GC{X:Cx}{K':PySem.W.Frag}{es:List Expr}{k:Nat}{t:Ir}{n:Nat}{pos:Pos}(hK:X.K=K')(hc:X.calm=true)(h:Nd X es t)
  (hn:(assignEach es X.env).length=n:=by rfl) (hst:(assignEach es X.env).findIdx? (·.1)=none:=by rfl):PG X (.Tuple es k pos) (MP K' n t):=by
 subst hK
 exact tU hc h hn hst
def Qp(t u:TS):TS:=λD σ H=>∃Mid:St->Hp->Prop,t { D with nx:=Mid } σ H/\∀ σ' H',Mid σ' H'->u D σ' H'
theorem b4{X:Cx}{st:Stmt}{rest:List Stmt}{t u:TS}(h1:PS X st t)(h2:vt X rest u):vt X (st::rest) (Qp t u):=by
 intro pins s σ H D I h
 obtain⟨Mid,h,hm⟩:=h
 refine wpAny_execs_cons (fK (h1 pins s σ H { D with nx:=Mid } I h) λf s1 q=>?_)
 cases f with
 |next =>
  obtain⟨σ',H',I',q⟩:=q
  exact h2 pins s1 σ' H' D I' (hm σ' H' q)
 |ret v=>exact q
 |brk=>exact q
 |cont=>exact q
def iK(X:Cx)(scope:Scope)(cl:List (Str×Addr))(C:Addr)(N:List Str)(s:Shared)(H:Hp)(ex:List Addr)(pn:List (Addr×Obj))(E:Value->Shared->Prop):Cx :=
 { X with N:=N,s₀:=s,H₀:=H,env:=compEnvC scope cl C X.env,outer:=X.stack,ex:=ex,fn:=λx=>scope.names.lookup x==some .cell,pn:=pn,xe:=E }
structure cC(X:Cx)(scope:Scope)(cl:List (Str×Addr))(N:List Str)(lO:St->St):Prop where
 clos:closureFor scope X.env=pure cl
 kind:scope.kind= .function
 cell:∀y∈scope.names,y.2= .cell->cl.lookup y.1=none
 names:∀y∈scope.names,y.2= .local->scope.names.lookup y.1=some .local
 sub:∀x c,cl.lookup x=some c->X.env.cells.lookup x=some c
 has:∀x,((relabel scope X.env).names.lookup x=some .cell\/(relabel scope X.env).names.lookup x=some .free)->scope.names.lookup x=some .cell\/∃c,cl.lookup x=some c
 len:∀ σ,(lO σ).length=N.length
 fv:∀(σ:St) (i:Nat) (x:Str) (v:V),N[i]? =some x->(lO σ)[i]? =some (some v)->Oe (relabel scope X.env) x →
  ∃(j:Nat) (c:Addr),X.N[j]? =some x/\σ[j]? =some (some v)/\X.env.kindOf x=some .cell/\((relabel scope X.env).names.lookup x=some .cell\/(relabel scope X.env).names.lookup x=some .free)/\cl.lookup x=some c
structure FZ(cl xM:List (Str×Addr))(scope:Scope)(n:Nat)(h₁:Heap):Prop where
 look:∀x c,xM.lookup x=some c->(n<c/\h₁.IsCell c none)\/cl.lookup x=some c
 inj:∀x y c,n<c->xM.lookup x=some c->xM.lookup y=some c->(∀x,cl.lookup x≠some c)->x=y
 keep:∀x c,cl.lookup x=some c->xM.lookup x=some c
 own:∀x,scope.names.lookup x=some .cell->∃c,xM.lookup x=some c
theorem gq:∀(names:List (Str×NameKind)) (n:Nat) (acc:List (Str×Addr)),cellsFrom n names acc=cellsFrom n names []++acc
 |[],_,_=>rfl
 |(y,k)::r,n,acc=>by
  unfold cellsFrom
  split
  ·rw[gq r _ ((y,n)::acc),gq r _ [(y,n)],List.append_assoc];rfl
  ·exact gq r n acc
theorem k8:∀(names:List (Str×NameKind)) (n:Nat) (acc:List (Str×Addr)) (x:Str) (c:Addr),(x,c)∈cellsFrom n names acc->(x,NameKind.cell)∈names\/(x,c)∈acc
 |[],_,_,_,_,h=>.inr h
 |(y,k)::r,n,acc,x,c,h=>by
  unfold cellsFrom at h
  split at h
  next hk =>
   rcases k8 r _ _ x c h with z|z
   ·exact .inl (List.mem_cons_of_mem _ z)
   ·rcases List.mem_cons.mp z with e|e
    ·cases e
     have hk':k= .cell:=by simpa using hk
     rw[hk']
     exact .inl List.mem_cons_self
    ·exact .inr e
  next=>exact(k8 r _ _ x c h).imp (List.mem_cons_of_mem _) id
theorem zN{X:Cx}{scope:Scope}{cl:List (Str×Addr)}{N:List Str}{lO:St->St}(S:cC X scope cl N lO){M:Model}{A:Around}{E:Value->Shared->Prop}{s:Shared}{Q:Env->Shared->Prop}
  (h:∀xM h₁,FZ cl xM scope s.heap.objs.size h₁->h₁.Ns s.heap.objs.size (λ_=>none)->(∀b o,s.heap.get? b=some o->h₁.get? b=some o)->Q { compEnvC scope xM s.heap.objs.size X.env with scope:=scope } { s with heap:=h₁ }) :
  wpAny M A (newFunctionEnv scope X.env.globals cl [] X.env.qual none .none (some X.env)) Q E s:=by
 simp only[newFunctionEnv,Option.isSome_some,if_true]
 refine wpAny_bind (wpAny_alloc ?_)
 refine wpAny_bind (wpAny_layCells _ (λname kind cells=>by cases hkc:kind==NameKind.cell<;>simp[hkc]) _ _ _ _ ?_)
 have hz:(s.heap.push { cls:=.type "dict",data:=.dict #[] }).objs.size=s.heap.objs.size+1:=Heap.size_push ..
 have ok:=cellsFrom_ok scope.names (s.heap.push { cls:=.type "dict",data:=.dict #[] }) (s.heap.objs.size+1) [] ⟨λ_ _ hm=>(nomatch hm),List.Pairwise.nil⟩ (by rw[hz];exact Nat.le_refl _)
 simp only[List.forIn_nil]
 refine wpAny_bind (wpAny_pure (wpAny_pure (h (cellsFrom (s.heap.push { cls:=.type "dict",data:=.dict #[] }).objs.size scope.names cl) _ ⟨λx c e=>?_,λx y c _ ex ey hn=>?_,λx c e=>?_,λx e=>?_⟩ ((Heap.Ns.new s.heap (.type "dict")).keeps λb o e=>pushCells_keeps _ _ _ _ e) λb o e=>pushCells_keeps _ _ _ _ (Heap.get?_push_of_some _ e))))
 ·rw[gq,List.lookup_append]at e
  cases q:(cellsFrom (s.heap.push { cls:=.type "dict",data:=.dict #[] }).objs.size scope.names []).lookup x with
  |none=>rw[q]at e;exact .inr e
  |some d =>
   rw[q]at e
   cases e
   exact .inl ((ok.empty x c (mem_of_lookup q)).symm)
 ·rw[gq,List.lookup_append]at ex ey
  cases qx:(cellsFrom (s.heap.push { cls:=.type "dict",data:=.dict #[] }).objs.size scope.names []).lookup x with
  |none=>rw[qx]at ex;exact absurd ex (hn x)
  |some d =>
   rw[qx]at ex
   cases ex
   cases qy:(cellsFrom (s.heap.push { cls:=.type "dict",data:=.dict #[] }).objs.size scope.names []).lookup y with
   |none=>rw[qy]at ey;exact absurd ey (hn y)
   |some d =>
    rw[qy]at ey
    cases ey
    exact name_of_addr ok.apart (mem_of_lookup qx) (mem_of_lookup qy)
 ·rw[gq,List.lookup_append]
  cases q:(cellsFrom (s.heap.push { cls:=.type "dict",data:=.dict #[] }).objs.size scope.names []).lookup x with
  |none=>exact e
  |some d =>
   rcases k8 _ _ _ _ _ (mem_of_lookup q)with z|z
   ·rw[S.cell _ z rfl]at e;cases e
   ·cases z
 ·exact Option.isSome_iff_exists.mp (PySem.W.cellsFrom_some _ _ _ (.inl e))
theorem cC.plain{X:Cx}{scope:Scope}{N:List Str}(hfree:∀x∈scope.names,x.2≠ .free)(kind:scope.kind= .function)(_:∀y∈scope.names,y.2= .cell->(y.1,NameKind.free)∉scope.names)
  (names:∀y∈scope.names,y.2= .local->scope.names.lookup y.1=some .local):cC X scope [] N (λ_=>List.replicate N.length none):=by
 have hr:(relabel scope X.env).names=scope.names:=by
  unfold relabel
  exact map_eq_self λx hx=>by
   obtain⟨n,k⟩:=x
   have:(k==NameKind.free)=false:=by simpa using hfree _ hx
   simp[this]
 refine⟨closureFor_none hfree,kind,λ_ _ _=>rfl,names,λx c e=>by simp at e,λx hx=>?_,λσ=>List.length_replicate,λσ i x v _ e _=>?_⟩
 ·rw[hr]at hx
  rcases hx with hx|hx
  ·exact .inl hx
  ·exact absurd rfl (hfree _ (PySem.mem_of_lookup hx))
 ·rw[List.getElem?_replicate]at e
  split at e
  ·cases e
  ·cases e
def pI(look:Str->Option Addr):List (Str×NameKind)->List (Str×Addr)->List (Str×Addr)
 |[],acc=>acc
 |(n,k)::r,acc=>if(k==NameKind.free)=true then(match look n with|some a=>pI look r ((n,a)::acc)|none=>pI look r acc)else pI look r acc
theorem pH{env:Env}:∀(names:List (Str×NameKind)) (acc:List (Str×Addr)),(∀x∈names,x.2= .free->∃a,env.cells.lookup x.1=some a) →
  (forIn names acc (λ(x:Str×NameKind) (r:List (Str×Addr))=>match x with|(name,kind)=>if(kind==NameKind.free)=true then do let c ←cellOf env name;pure (ForInStep.yield ((name,c)::r))else pure (ForInStep.yield r)):Sem (List (Str×Addr)))=pure (pI (env.cells.lookup ·) names acc)
 |[],acc,_=>rfl
 |(n,k)::r,acc,h=>by
  rw[List.forIn_cons]
  dsimp only
  unfold pI
  by_cases hk:(k==NameKind.free)=true
  ·obtain⟨a,ha⟩:=h (n,k) List.mem_cons_self (by simpa using hk)
   have ha':env.cells.lookup n=some a:=ha
   rw[if_pos hk,if_pos hk,ha']
   have hc:cellOf env n=pure a:=by unfold cellOf;rw[ha']
   rw[hc]
   exact pH r _ λx hx=>h x (List.mem_cons_of_mem _ hx)
  ·rw[if_neg hk,if_neg hk]
   exact pH r _ λx hx=>h x (List.mem_cons_of_mem _ hx)
theorem ql{look:Str->Option Addr}:∀(names:List (Str×NameKind)) (acc:List (Str×Addr)),(∀x c,acc.lookup x=some c->look x=some c)->∀x c,(pI look names acc).lookup x=some c->look x=some c
 |[],acc,h=>h
 |(n,k)::r,acc,h=>by
  unfold pI
  by_cases hk:(k==NameKind.free)=true
  ·rw[if_pos hk]
   cases e:look n with
   |none=>exact ql r acc h
   |some a =>
    refine ql r _ λx c q=>?_
    rw[List.lookup_cons]at q
    by_cases hx:(x==n)=true
    ·rw[hx]at q
     have:x=n:=by simpa using hx
     rw[this,e]
     exact q
    ·have hx':(x==n)=false:=by simpa using hx
     rw[hx']at q
     exact h x c q
  ·rw[if_neg hk]
   exact ql r acc h
theorem mq{look:Str->Option Addr}:∀(names:List (Str×NameKind)) (acc:List (Str×Addr)) (x:Str),(∃c,acc.lookup x=some c)->∃c,(pI look names acc).lookup x=some c
 |[],_,_,h=>h
 |(n,k)::r,acc,x,h=>by
  unfold pI
  by_cases hk:(k==NameKind.free)=true
  ·rw[if_pos hk]
   cases e:look n with
   |none=>exact mq r acc x h
   |some a =>
    refine mq r _ x ?_
    rw[List.lookup_cons]
    cases hx:x==n with
    |true=>exact⟨a,rfl⟩
    |false=>exact h
  ·rw[if_neg hk]
   exact mq r acc x h
theorem nI{look:Str->Option Addr}:∀(names:List (Str×NameKind)) (acc:List (Str×Addr)) (x:Str),(x,NameKind.free)∈names->(∃a,look x=some a)->∃c,(pI look names acc).lookup x=some c
 |[],_,_,h,_=>by cases h
 |(n,k)::r,acc,x,h,ha=>by
  unfold pI
  rcases List.mem_cons.mp h with e|e
  ·obtain⟨a,ha⟩:=ha
   have e1:x=n:=congrArg Prod.fst e
   have e2:k=NameKind.free:=(congrArg Prod.snd e).symm
   subst e1 e2
   rw[if_pos (by decide),ha]
   refine mq r _ x ⟨a,?_⟩
   rw[List.lookup_cons]
   simp
  ·by_cases hk:(k==NameKind.free)=true
   ·rw[if_pos hk]
    cases e2:look n with
    |none=>exact nI r acc x e ha
    |some a=>exact nI r _ x e ha
   ·rw[if_neg hk]
    exact nI r acc x e ha
theorem qm{look:Str->Option Addr}:∀(names:List (Str×NameKind)) (acc:List (Str×Addr)) (x:Str) (c:Addr),(pI look names acc).lookup x=some c->(x,NameKind.free)∈names\/acc.lookup x=some c
 |[],_,_,_,h=>.inr h
 |(n,k)::r,acc,x,c,h=>by
  unfold pI at h
  by_cases hk:(k==NameKind.free)=true
  ·rw[if_pos hk]at h
   cases e:look n with
   |none=>rw[e]at h;exact(qm r acc x c h).imp (List.mem_cons_of_mem _) id
   |some a =>
    rw[e]at h
    rcases qm r _ x c h with z|z
    ·exact .inl (List.mem_cons_of_mem _ z)
    ·rw[List.lookup_cons]at z
     cases hx:x==n with
     |true =>
      have e1:x=n:=by simpa using hx
      have e2:k= .free:=by simpa using hk
      rw[e1,e2]
      exact .inl List.mem_cons_self
     |false=>rw[hx]at z;exact .inr z
  ·rw[if_neg hk]at h
   exact(qm r acc x c h).imp (List.mem_cons_of_mem _) id
theorem lR{env:Env}:∀{names:List (Str×NameKind)} {x:Str} {k:NameKind},
  (names.map λ(n,k)=>if(k==NameKind.free&&env.scope.kind== .function&&env.kindOf n==some .cell)then(n,NameKind.cell)else(n,k)).lookup x=some k →
  (k= .cell\/k= .free)->names.lookup x=some .cell\/(x,NameKind.free)∈names
 |[],_,_,h,_=>by simp at h
 |(n,j)::r,x,k,h,hk=>by
  rw[List.map_cons,List.lookup_cons]at h
  rw[List.lookup_cons]
  by_cases hj:(j==NameKind.free&&env.scope.kind== .function&&env.kindOf n==some .cell)=true
  ·simp only[hj,if_true]at h
   by_cases hx:(x==n)=true
   ·have e:x=n:=by simpa using hx
    have ej:j= .free:=by
     rw[Bool.and_eq_true,Bool.and_eq_true]at hj
     simpa using hj.1.1
    rw[e,←ej]
    exact .inr List.mem_cons_self
   ·have hx':(x==n)=false:=by simpa using hx
    rw[hx']at h ⊢
    exact(lR h hk).imp id (List.mem_cons_of_mem _)
  ·simp only[hj]at h
   by_cases hx:(x==n)=true
   ·have e:x=n:=by simpa using hx
    rw[e]at h
    simp at h
    subst h
    rw[hx]
    rcases hk with q|q
    ·rw[q];exact .inl rfl
    ·rw[e,←q]
     exact .inr List.mem_cons_self
   ·have hx':(x==n)=false:=by simpa using hx
    simp[hx']at h
    rw[hx']
    exact(lR (by simpa using h) hk).imp id (List.mem_cons_of_mem _)
def Nz(nt:Nat)(ix:List Nat)(σ:St):St:=List.replicate nt none++ix.map λj=>(σ[j]?).join
theorem cC.free{X:Cx}{scope:Scope}{N:List Str}{nt:Nat}{ix:List Nat}(kind:scope.kind= .function)(cell:∀y∈scope.names,y.2= .cell->(y.1,NameKind.free)∉scope.names)
  (names:∀y∈scope.names,y.2= .local->scope.names.lookup y.1=some .local) (hf:∀y∈scope.names,y.2= .free->X.env.kindOf y.1=some .cell)
  (hl:N.length=nt+ix.length) (hx:∀(k j:Nat),ix[k]? =some j->∃x,N[nt+k]? =some x/\X.N[j]? =some x/\(x,NameKind.free)∈scope.names/\(relabel scope X.env).names.lookup x=some .cell) (ok:X.Ok) :
  ∃cl,cC X scope cl N (Nz nt ix):=by
 have hcl:∀y∈scope.names,y.2= .free->∃a,X.env.cells.lookup y.1=some a:=λy hy hk=>ok.has y.1 (.inl (hf y hy hk))
 refine⟨pI (X.env.cells.lookup ·) scope.names [],?_,kind,λy hy hk=>?_,names,ql scope.names [] (λx c e=>by simp at e),λx h=>?_,λσ=>?_,λσ i x v e1 e2 e3=>?_⟩
 ·have z:=pH scope.names [] hcl
  unfold closureFor
  dsimp only
  rw[z]
  rfl
 ·cases q:(pI (X.env.cells.lookup ·) scope.names []).lookup y.1 with
  |none=>rfl
  |some c =>
   rcases qm _ _ _ _ q with z|z
   ·exact absurd z (cell y hy hk)
   ·cases z
 ·have hm:scope.names.lookup x=some .cell\/(x,NameKind.free)∈scope.names:=by
   rcases h with h|h
   ·exact lR h (.inl rfl)
   ·exact lR h (.inr rfl)
  exact hm.imp id λhm=>nI scope.names [] x hm (hcl _ hm rfl)
 ·unfold Nz
  rw[List.length_append,List.length_replicate,List.length_map,hl]
 ·unfold Nz at e2
  by_cases hi:i<nt
  ·rw[List.getElem?_append_left (by rw[List.length_replicate];exact hi),List.getElem?_replicate]at e2
   split at e2
   ·cases e2
   ·cases e2
  ·rw[List.getElem?_append_right (by rw[List.length_replicate];omega),List.length_replicate,List.getElem?_map]at e2
   cases ej:ix[i-nt]? with
   |none=>rw[ej]at e2;cases e2
   |some j =>
    rw[ej]at e2
    have Ob:(σ[j]?).join=some v:=Option.some.inj e2
    obtain⟨x',n1,n2,n3,n4⟩:=hx (i-nt) j ej
    rw[show nt+(i-nt)=i by omega,e1]at n1
    cases n1
    obtain⟨c,hc⟩:=nI (look:=(X.env.cells.lookup ·)) scope.names [] x n3 (hcl _ n3 rfl)
    refine⟨j,c,n2,?_,hf _ n3 rfl,.inl n4,hc⟩
    cases es:σ[j]? with
    |none=>rw[es]at Ob;cases Ob
    |some o=>rw[es]at Ob;rw[show o=some v from Ob]
def Kp(a b:St):Prop:=∀(i:Nat) (v:V),a[i]? =some (some v)->b[i]? =some (some v)
theorem Kp.rep(n:Nat)(b:St):Kp (List.replicate n none) b:=λi v e=>by
 rw[List.getElem?_replicate]at e
 split at e
 ·cases e
 ·cases e
def yF(wi:TI)(g:TG)(te:TE)(lO:St->St):TE:=λσ H Q=>wi σ H λJ H1=>∀l,H1 l=none->∃W:Nat->Nat->List V->Hp->Prop,(∃m,W 0 m [] (upd H1 l (.lst []))) ∧
 ∀i m ys H2,W i m ys H2->(J.stop i H2/\Q (.ref l) H2) ∨
  (J.go i H2/\∀x H3,J.Bl i H2 x H3->g x (lO σ) H3 λBf H4=>Kp (lO σ) Bf/\te Bf H4 λy H5=>H5 l=some (.lst ys)/\ys.length<sizeLine/\∃m',m'<m/\W (i+1) m' (ys++[y]) (upd H5 l (.lst (ys++[y]))))
theorem Inv.Hw{X:Cx}{pins:List (Addr×Obj)}{σ:St}{H:Hp}{s:Shared}(I:Inv X pins σ H s):Inv X [] σ H s:=I.xg λ_ hp=>nomatch hp
theorem lg.but{P:Program}{w:World}{H:Hp}{h h':Heap}{C:Addr}(x:lg P w H h)(hC:H C=none)(sb:Heap.SameBut C h h'):lg P w H h':=λb u e =>
 (x b u e).stay (λc v hc q=>(sb.2 c (by
  rintro rfl
  rcases hc with z|z
  ·rw[z,e]at hC;cases hC
  ·rw[hC]at z;cases z)).trans q) (λ_ q=>q) λ_ _ q=>q
section
variable{X:Cx}{pins:List (Addr×Obj)}{σ:St}{H:Hp}{s:Shared}{scope:Scope}{cl:List (Str×Addr)}{N:List Str}{lO:St->St}{fp:List Addr}{h₁:Heap}{m:Str->Option Value}{E:Value->Shared->Prop}
theorem zv{xM:List (Str×Addr)}(S:cC X scope cl N lO)(G:FZ cl xM scope s.heap.objs.size h₁)(I:Inv X pins σ H s)(hf:∀b∈fp,nM X pins H b/\b<s.heap.objs.size)(kp:∀b o,s.heap.get? b=some o->h₁.get? b=some o)(hns:h₁.Ns s.heap.objs.size m)(t':Nat)(ht:s.toks<=t':=by first|exact Nat.le_refl _|exact Nat.le_succ _|assumption|omega):
  Inv (iK X scope xM s.heap.objs.size N s H fp (X.pn++pins) E) [] (lO σ) H { s with heap:=h₁,toks:=t' }:=by
 have LV:∀b,b≠X.env.locals->b∉X.fs->b∉frs X.stack:=λb h1 h2 z=>by
  rcases List.mem_cons.mp (I.oX b z)with q|q
  ·exact h1 q
  ·exact h2 q
 have Hl:∀x c,cl.lookup x=some c->c<s.heap.objs.size:=λx c e=>by
  obtain⟨v,o,ho,_⟩:=I.cell x c (S.sub x c e)
  exact Heap.lt_size ho
 refine⟨⟨I.mod,S.kind,I.ok.glob,I.ok.blt,Nat.le_refl _,λx y c a b=>?_,λx h=>(S.has x h).elim (G.own x) λ⟨c,e⟩=>⟨c,G.keep x c e⟩,λx c z e=>?_,I.ok.hd,I.ok.frames,.inl rfl,λb hb=>?_,I.bs,Nat.le_trans I.ok.DQ I.sz,λb o e hb=>?_,λb hb=>?_,I.stack,I.sM,I.tk⟩,
  rfl,I.bare,Un.kept kp,⟨m,hns,λi x v e1 e2 e3=>?_⟩,λx c e=>?_,I.hok.fresh (Nat.le_refl _),λx c e=>(G.look x c e).elim (λz=>I.hok.fresh (Nat.le_of_lt z.1)) λz=>I.ja x c (S.sub x c z),λp hp=>?_,I.hok.kept kp,S.len σ,ht⟩
 ·by_cases hc:s.heap.objs.size<c
  ·exact G.inj x y c hc a b λz e=>Nat.lt_asymm hc (Hl z c e)
  ·exact I.ok.inj x y c (S.sub x c ((G.look x c a).elim (λz=>absurd z.1 hc) id)) (S.sub y c ((G.look y c b).elim (λz=>absurd z.1 hc) id))
 ·rcases G.look x c e with q|q
  ·exact Nat.le_of_lt q.1
  ·have z2:(scope.names.lookup x==some NameKind.cell)=true:=z
   have z':scope.names.lookup x=some .cell:=by simpa using z2
   rw[S.cell _ (mem_of_lookup z') rfl]at q
   cases q
 ·obtain⟨⟨_,_,_,_,f4,_⟩,lt⟩:=hf b hb
  exact⟨Nat.ne_of_lt lt,λx c e=>(G.look x c e).elim (λz=>Nat.ne_of_gt (Nat.lt_trans lt z.1)) λz=>f4 x c (S.sub x c z)⟩
 ·obtain⟨⟨f0,_,_,f3,_⟩,_⟩:=hf b hb
  rcases f3 with z|z
  ·exact I.ok.AJ b o e z
  ·exact absurd (Nat.lt_of_lt_of_le (Heap.lt_size e) (Nat.le_trans I.ok.DQ z)) (Nat.lt_irrefl _)
 ·obtain⟨⟨_,f1,f2,_⟩,_⟩:=hf b hb
  exact LV b f1 f2
 ·obtain⟨j,c,n1,n2,n3,n4,n5⟩:=S.fv σ i x v e1 e2 e3
  obtain⟨mX,_,hl⟩:=I.loc
  obtain⟨u,r,l⟩:=hl j x v n1 n2 (.inr (.inl n3))
  refine⟨u,r,.inr ⟨n4,c,G.keep x c n5,?_⟩⟩
  rcases l with⟨k,_⟩|⟨_,c',ec,o,ho,hd⟩
  ·have k':X.env.scope.names.lookup x=some .local:=k
   have Tj:X.env.scope.names.lookup x=some .cell:=n3
   rw[k']at Tj;cases Tj
  ·have q:=S.sub x c n5
   rw[q]at ec;cases ec
   exact⟨o,kp _ _ ho,hd⟩
 ·rcases G.look x c e with z|z
  ·exact⟨none,z.2⟩
  ·obtain⟨v,o,ho,hd⟩:=I.cell x c (S.sub x c z)
   exact⟨v,o,kp _ _ ho,hd⟩
 ·have NS:p∈X.pn++pins:=by
   rcases List.mem_append.mp hp with z|z
   ·exact z
   ·cases z
  obtain⟨a,b,c,d,e⟩:=I.pin p NS
  exact⟨kp _ _ a,b,Nat.ne_of_lt (Heap.lt_size a),LV _ c d,e⟩
end
end L2
namespace L2
open PySem PySem.Spec PyProof.Rows
inductive Cp where
 |lst (a:Addr)|tup (a:Addr)|txt (x:Str)
def fj(x:Str):List V:=x.cps.toList.map λc=>V.str ⟨#[c]⟩
def Cp.val:Cp->V
 | .lst a=>.ref a
 | .tup a=>.ref a
 | .txt x=>.str x
def Cp.at(K:PySem.W.Frag)(H:Hp):Cp->List V->Prop
 | .lst a=>bX K H a
 | .tup a=>cL K H a
 | .txt x=>λxs=>xs=fj x
def Cp.Dk(h:Heap)(it:Addr)(i:Nat):Cp->Prop
 | .lst a=>h.IsListIter it a i
 | .tup a=>h.IsTupleIter it a i
 | .txt x=>∃t,h.IsStrIter it (strIterType x) x t i
def Cp.src(h:Heap):Cp->List V->Prop
 | .lst a=>λxs=>∃its,Vals xs its/\h.IsList a its.toArray
 | .tup a=>λxs=>∃its,Vals xs its/\h.IsTuple a its.toArray
 | .txt x=>λxs=>xs=fj x
def Cp.off(b:Addr):Cp->Prop
 | .lst a=>a≠b
 | .tup a=>a≠b
 | .txt _=>True
section
variable{X:Cx}{pins:List (Addr×Obj)}{σ:St}{H:Hp}{s:Shared}{c d:Cp}{xs ys:List V}
theorem Cp.qC(I:Inv X pins σ H s)(h:c.at X.K H xs):c.src s.heap xs:=by
 cases c with
 |lst a=>obtain⟨its,r,p,_⟩:=I.list h;exact⟨its,r,p.isList⟩
 |tup a=>obtain⟨its,r,p,_⟩:=I.tuple h;exact⟨its,r,p⟩
 |txt x=>exact h
theorem Cp.FQ(I:Inv X pins σ H s)(h:c.at X.K H xs)(h':c.at X.K H ys):xs=ys:=by
 cases c with
 |lst a=>exact I.zp h h'
 |tup a=>exact I.vH h h'
 |txt x=>exact(show xs=fj x from h).trans (show ys=fj x from h').symm
theorem Cp.nj {h:Heap} {b:Addr} {o:Obj} {T:String} (hs:c.src h xs) (hb:h.get? b=some o) (hc:o.cls= .type T) (n1:T≠ "list") (n2:T≠ "tuple"):c.off b:=by
 cases c with
 |lst a =>
  obtain⟨its,_,o',ho,hc',_⟩:=hs
  intro e
  rw[e,hb]at ho
  cases ho
  rw[hc]at hc'
  injection hc' with q
  exact n1 q
 |tup a =>
  obtain⟨its,_,o',ho,hc',_⟩:=hs
  intro e
  rw[e,hb]at ho
  cases ho
  rw[hc]at hc'
  injection hc' with q
  exact n2 q
 |txt x=>trivial
theorem Cp.BV{h:Heap}{b:Addr}(hs:c.src h xs)(hb:h.objs.size<=b):c.off b:=by
 cases c with
 |lst a =>
  obtain⟨its,_,o',ho,_⟩:=hs
  exact Nat.ne_of_lt (Nat.lt_of_lt_of_le (Heap.lt_size ho) hb)
 |tup a =>
  obtain⟨its,_,o',ho,_⟩:=hs
  exact Nat.ne_of_lt (Nat.lt_of_lt_of_le (Heap.lt_size ho) hb)
 |txt x=>trivial
theorem Cp.jS{h h':Heap}{b:Addr}(hs:c.src h xs)(hx:Heap.ExtBut b h h')(ho:c.off b):c.src h' xs:=by
 cases c with
 |lst a=>obtain⟨its,r,p⟩:=hs;exact⟨its,r,p.extBut hx ho⟩
 |tup a=>obtain⟨its,r,p⟩:=hs;exact⟨its,r,p.extBut hx ho⟩
 |txt x=>exact hs
theorem Cp.Ec{h h':Heap}(hs:c.src h xs)(hx:∀b o,h.get? b=some o->h'.get? b=some o):c.src h' xs:=by
 cases c with
 |lst a=>obtain⟨its,r,o,ho,q⟩:=hs;exact⟨its,r,o,hx _ _ ho,q⟩
 |tup a=>obtain⟨its,r,o,ho,q⟩:=hs;exact⟨its,r,o,hx _ _ ho,q⟩
 |txt x=>exact hs
theorem Cp.lZ{h:Heap}{it:Addr}{i:Nat}(q:c.Dk h it i):∃o T vs,h.get? it=some o/\o.cls= .type T/\o.data= .fields vs/\T≠ "list" /\T≠ "tuple" :=by
 cases c with
 |lst a=>obtain⟨o,ho,hc,hd⟩:=q;exact⟨o,_,_,ho,hc,hd,by decide,by decide⟩
 |tup a=>obtain⟨o,ho,hc,hd⟩:=q;exact⟨o,_,_,ho,hc,hd,by decide,by decide⟩
 |txt x =>
  obtain⟨t,o,ho,hc,hd⟩:=q
  refine⟨o,_,_,ho,hc,hd,?_,?_⟩
  ·unfold strIterType;split<;>decide
  ·unfold strIterType;split<;>decide
theorem Cp.jm{h h':Heap}{it:Addr}{i:Nat}(q:c.Dk h it i)(e:∀o,h.get? it=some o->h'.get? it=some o):c.Dk h' it i:=by
 cases c with
 |lst a=>obtain⟨o,ho,r⟩:=q;exact⟨o,e _ ho,r⟩
 |tup a=>obtain⟨o,ho,r⟩:=q;exact⟨o,e _ ho,r⟩
 |txt x=>obtain⟨t,o,ho,r⟩:=q;exact⟨t,o,e _ ho,r⟩
end
section
variable{prog:Program}{w:World}{A:Around}{E:Value->Shared->Prop}{s:Shared}{c d:Cp}{xs ys:List V}
theorem p9{it t:Addr}{i:Nat}{items}{x:Value}{Q:Value->Shared->Prop}(hit:s.heap.IsTupleIter it t i)
  (ht:s.heap.IsTuple t items) (hx:items[i]? =some x)
  (hQ:∀h',h'.IsTupleIter it t (i+1)->Heap.SameBut it s.heap h'->Q x { s with heap:=h' }) :
  wpAny (model prog w) A (Builtin.SmallTypes.nextOf (.ref it)) Q E s:=by
 obtain⟨o,ho,hc,hd⟩:=id hit
 obtain⟨ol,RB,_,nl,hdl⟩:=ht
 unfold Builtin.SmallTypes.nextOf
 refine wpAny_bind (wpAny_callSpecial?_slot (name:=Str.ofString "__next__") hit.typeIs F.slot_tuple_iterator_next
  (wpAny_call_entry F.slot_tuple_iterator_next hit.typeIs F.entry_tuple_iterator_next ?_ (F.args_tuple_iterator_next_1 _)))
 show wpAny _ _ (field (.ref it) 0 >>= _) _ _ s
 refine wpAny_bind (wpAny_field ho hd (x:=.ref t) rfl ?_)
 show wpAny _ _ (if(Value.ref t==Value.none)=true then _ else _) _ _ s
 rw[if_neg (show ¬((Value.ref t==Value.none)=true) from Bool.false_ne_true)]
 show wpAny _ _ (field (.ref it) 1 >>= _) _ _ s
 refine wpAny_bind (wpAny_field ho hd (x:=.int i 0) rfl ?_)
 show wpAny _ _ (seqItems? (.ref t) >>= _) _ _ s
 refine wpAny_bind (wpAny_seqItems RB hdl ?_)
 simp only[Int.toNat_natCast,hx]
 refine wpAny_bind (wpAny_setField ho hd (by simp) (wpAny_pure ⟨x,rfl,wpAny_pure (hQ _ ?_ (Heap.SameBut.update ..))⟩))
 exact⟨_,Heap.get?_update_self _ ho (Obj.isFreed_of_fields (Obj.data_mapFields hd _)),(Obj.cls_mapFields ..).trans hc,by
  rw[Obj.data_mapFields hd];simp[rawInt]⟩
theorem qQ{it t:Addr}{i:Nat}{items}{Q:Value->Shared->Prop}(hh:A.handled=none)
  (hit:s.heap.IsTupleIter it t i) (ht:s.heap.IsTuple t items) (hx:items[i]? =none)
  (hE:∀h' e,Heap.ExtBut it s.heap h'->(∃o,h'.get? e=some o/\o.cls= .type "StopIteration")->E (.ref e) { s with heap:=h' }) :
  wpAny (model prog w) A (Builtin.SmallTypes.nextOf (.ref it)) Q E s:=by
 obtain⟨o,ho,hc,hd⟩:=id hit
 obtain⟨ol,RB,_,nl,hdl⟩:=ht
 unfold Builtin.SmallTypes.nextOf
 refine wpAny_bind (wpAny_callSpecial?_slot (name:=Str.ofString "__next__") hit.typeIs F.slot_tuple_iterator_next
  (wpAny_call_entry F.slot_tuple_iterator_next hit.typeIs F.entry_tuple_iterator_next ?_ (F.args_tuple_iterator_next_1 _)))
 show wpAny _ _ (field (.ref it) 0 >>= _) _ _ s
 refine wpAny_bind (wpAny_field ho hd (x:=.ref t) rfl ?_)
 show wpAny _ _ (if(Value.ref t==Value.none)=true then _ else _) _ _ s
 rw[if_neg (show ¬((Value.ref t==Value.none)=true) from Bool.false_ne_true)]
 show wpAny _ _ (field (.ref it) 1 >>= _) _ _ s
 refine wpAny_bind (wpAny_field ho hd (x:=.int i 0) rfl ?_)
 show wpAny _ _ (seqItems? (.ref t) >>= _) _ _ s
 refine wpAny_bind (wpAny_seqItems RB hdl ?_)
 simp only[Int.toNat_natCast,hx]
 refine wpAny_bind (wpAny_rule (wpAny_bind (wpAny_setField ho hd (by simp) ?_)))
 show wpAny _ _ (newExc (.type "StopIteration") [] >>= _) _ _ _
 refine wpAny_bind ?_
 simp only[newExc,newTuple]
 refine wpAny_bind (wpAny_newObj_type ?_ (by size_fits))
 refine wpAny_bind (m:=firstArgMember _ _) (wpAny_of_eq (a:=Value.none) (by first|rfl|(simp only[firstArgMember];rfl)) ?_)
 refine wpAny_newObj_type ?_ (by size_fits)
 simp only[raiseNew]
 refine wpAny_bind (wpAny_handled ?_)
 first|rw[show A.in1.handled=none from hh]|rw[hh]
 refine wpAny_bind (wpAny_pure (wpAny_throw ?_))
 exact hE _ _ (((Heap.SameBut.update ..).extBut.push _).push _) ⟨_,Heap.get?_push_size _ rfl,rfl⟩
theorem signs_get{x:Str}{i:Nat}{v:V}(h:(fj x)[i]? =some v):∃k,x.cps[i]? =some k/\v= .str ⟨#[k]⟩:=by
 unfold fj at h
 rw[List.getElem?_map]at h
 cases e:x.cps.toList[i]? with
 |none=>rw[e]at h;cases h
 |some k =>
  rw[e]at h
  exact⟨k,by simpa using e,(Option.some.inj h).symm⟩
theorem CL{x:Str}{i:Nat}(h:(fj x)[i]? =none):x.cps[i]? =none:=by
 unfold fj at h
 rw[List.getElem?_map]at h
 cases e:x.cps.toList[i]? with
 |none=>simpa using e
 |some k=>rw[e]at h;cases h
theorem Cp.item{it:Addr}{i:Nat}{x:V}{Q:Value->Shared->Prop}(hit:c.Dk s.heap it i)(hs:c.src s.heap xs)(hx:xs[i]? =some x)
  (hQ:∀u h' tk,RelV x u->c.Dk h' it (i+1)->Heap.SameBut it s.heap h'->Q u { s with heap:=h',toks:=tk }) :
  wpAny (model prog w) A (Builtin.SmallTypes.nextOf (.ref it)) Q E s:=by
 cases c with
 |lst a =>
  obtain⟨its,r,p⟩:=hs
  obtain⟨u,hu,ru⟩:=r.get hx
  exact wpAny_nextOf_list_item hit p (x:=u) (by simpa using hu) λh' q sb=>hQ u h' s.toks ru q sb
 |tup a =>
  obtain⟨its,r,p⟩:=hs
  obtain⟨u,hu,ru⟩:=r.get hx
  exact p9 hit p (x:=u) (by simpa using hu) λh' q sb=>hQ u h' s.toks ru q sb
 |txt x' =>
  obtain⟨t,q⟩:=hit
  rw[show xs=fj x' from hs]at hx
  obtain⟨k,hk,rfl⟩:=signs_get hx
  unfold strIterType at q
  by_cases ha:(x'.cps.all (·<128))=true
  ·rw[if_pos ha]at q
   exact wpAny_nextOf_ascii_item q hk λh' q' sb=>hQ _ h' _ ⟨_,rfl⟩ ⟨t,by unfold strIterType;rw[if_pos ha];exact q'⟩ sb
  ·rw[if_neg ha]at q
   exact wpAny_nextOf_wide_item q hk λh' q' sb=>hQ _ h' _ ⟨_,rfl⟩ ⟨t,by unfold strIterType;rw[if_neg ha];exact q'⟩ sb
theorem Cp.fin{it:Addr}{i:Nat}{Q:Value->Shared->Prop}(hh:A.handled=none)(hit:c.Dk s.heap it i)(hs:c.src s.heap xs)(hx:xs[i]? =none)
  (hE:∀h' e,Heap.ExtBut it s.heap h'->(∃o,h'.get? e=some o/\o.cls= .type "StopIteration")->E (.ref e) { s with heap:=h' }) :
  wpAny (model prog w) A (Builtin.SmallTypes.nextOf (.ref it)) Q E s:=by
 cases c with
 |lst a =>
  obtain⟨its,r,p⟩:=hs
  exact wpAny_nextOf_list_end hh hit p (by simpa using r.none_of hx) hE
 |tup a =>
  obtain⟨its,r,p⟩:=hs
  exact qQ hh hit p (by simpa using r.none_of hx) hE
 |txt x' =>
  obtain⟨t,q⟩:=hit
  rw[show xs=fj x' from hs]at hx
  have hk:=CL hx
  unfold strIterType at q
  by_cases ha:(x'.cps.all (·<128))=true
  ·rw[if_pos ha]at q
   exact wpAny_nextOf_ascii_end hh q hk hE
  ·rw[if_neg ha]at q
   exact wpAny_nextOf_wide_end hh q hk hE
structure uK(z TI TO i1 i2:Addr):Prop where
 TIz:TI≠z
 TOz:TO≠z
 i1z:i1≠z
 i2z:i2≠z
 TITO:TI≠TO
 TIi1:TI≠i1
 TIi2:TI≠i2
 TOi1:TO≠i1
 TOi2:TO≠i2
 i12:i1≠i2
structure CF(h:Heap)(z TI TO i1 i2:Addr)(c d:Cp)(f0:Value)(i:Nat):Prop where
 zz:IsZip h z TI TO f0
 ti:IsPair h TI (.ref i1) (.ref i2)
 to:∃a b,IsPair h TO a b
 h1:c.Dk h i1 i
 h2:d.Dk h i2 i
 c1:c.off TO
 c2:d.off TO
theorem DU{z TI TO i1 i2:Addr}{i:Nat}{x y:V}{Q:Option Value->Shared->Prop}(D:uK z TI TO i1 i2)(Z:CF s.heap z TI TO i1 i2 c d .none i)
  (sc:c.src s.heap xs) (sd:d.src s.heap ys) (hx:xs[i]? =some x) (hy:ys[i]? =some y)
  (hQ:∀u v h' tk,RelV x u->RelV y v->CF h' z TI TO i1 i2 c d (rawInt s.heap.objs.size) (i+1)->IsPair h' s.heap.objs.size u v →
   (∀b o,b≠z->b≠TO->b≠i1->b≠i2->s.heap.get? b=some o->h'.get? b=some o)->Q (some (.ref s.heap.objs.size)) { s with heap:=h',toks:=tk }) :
  wpAny (model prog w) A (pyNext (.ref z)) Q E s:=by
 obtain⟨hz,hTI,⟨a,b,hTO⟩,h1,h2,c1,c2⟩:=id Z
 have hT:s.TypeIs (.ref z) "zip" :=⟨_,hz,rfl⟩
 obtain⟨QT,T1,_,hi1,M6,_,Ma,HR⟩:=Cp.lZ h1
 obtain⟨Tc,T2,_,hi2,WV,_,WM,WL⟩:=Cp.lZ h2
 have cz:c.off z:=Cp.nj sc hz rfl (by decide) (by decide)
 have dz:d.off z:=Cp.nj sd hz rfl (by decide) (by decide)
 have ci:c.off i1:=Cp.nj sc hi1 M6 Ma HR
 have di:d.off i1:=Cp.nj sd hi1 M6 Ma HR
 unfold pyNext
 refine wpAny_bind (wpAny_attempt (wpAny_callSpecial?_slot (name:=Str.ofString "__next__") hT F.slot_zip_next
  (wpAny_call_entry F.slot_zip_next hT F.entry_zip_next ?_ (F.args_zip_next_1 _))))
 show wpAny _ _ (field (.ref z) 2 >>= _) _ _ _
 refine wpAny_bind (wpAny_field hz rfl (x:=.bool false) rfl ?_)
 show wpAny _ _ (field (.ref z) 3 >>= _) _ _ _
 refine wpAny_bind (wpAny_field hz rfl (x:=.ref TI) rfl ?_)
 refine wpAny_bind (wpAny_seqItems hTI rfl ?_)
 show wpAny _ _ (Builtin.SmallTypes.ownedTupleIsFree (.ref z) >>= _) _ _ _
 refine wpAny_bind ?_
 unfold Builtin.SmallTypes.ownedTupleIsFree
 refine wpAny_bind (wpAny_field hz rfl (x:=.none) rfl (wpAny_pure ?_))
 simp only[if_true]
 refine wpAny_bind (wpAny_rule ?_)
 refine wpAny_bind (wpAny_field hz rfl (x:=.ref TO) rfl ?_)
 refine wpAny_bind (wpAny_setField_rec hz (by simp) λh₁ rL hs₁=>?_)
 replace rL:IsZip h₁ z TI TO .ellipsis:=rL
 refine wpAny_bind ?_
 simp only[List.zipIdx_cons,List.zipIdx_nil,List.forIn_cons,List.forIn_nil]
 refine wpAny_bind (wpAny_bind (wpAny_onRaise ?_))
 show wpAny _ _ (Builtin.SmallTypes.nextOf (.ref i1) >>= _) _ _ _
 refine wpAny_bind (Cp.item (c:=c) (Cp.jm h1 λo e=>hs₁.extBut _ _ D.i1z e) (Cp.jS sc hs₁.extBut cz) hx λu h₂ tk₂ ru Il hs₂=>wpAny_pure ?_)
 have uv:IsPair h₂ TO a b:=hs₂.extBut _ _ D.TOi1 (hs₁.extBut _ _ D.TOz hTO)
 refine wpAny_bind (wpAny_seqItems uv rfl ?_)
 refine wpAny_bind (wpAny_updateSeq_pair uv λh₃ xG kL=>?_)
 replace xG:IsPair h₃ TO u b:=xG
 refine wpAny_bind (wpAny_letGo (wpAny_pure ?_))
 refine wpAny_bind (wpAny_bind (wpAny_onRaise ?_))
 show wpAny _ _ (Builtin.SmallTypes.nextOf (.ref i2) >>= _) _ _ _
 refine wpAny_bind (Cp.item (c:=d) (Cp.jm h2 λo e=>kL.extBut _ _ D.TOi2.symm (hs₂.extBut _ _ D.i12.symm (hs₁.extBut _ _ D.i2z e))) (Cp.jS (Cp.jS (Cp.jS sd hs₁.extBut dz) hs₂.extBut di) kL.extBut c2) hy λv h₄ tk₄ rv MN rN=>wpAny_pure ?_)
 have Fo:IsPair h₄ TO u b:=rN.extBut _ _ D.TOi2 xG
 refine wpAny_bind (wpAny_seqItems Fo rfl ?_)
 refine wpAny_bind (wpAny_updateSeq_pair Fo λh₅ xF rM=>?_)
 replace xF:IsPair h₅ TO u v:=xF
 refine wpAny_bind (wpAny_letGo (wpAny_pure (wpAny_pure ?_)))
 refine wpAny_bind (wpAny_seqItems xF rfl ?_)
 refine wpAny_bind (wpAny_newTuple ?_)
 have hsz:h₅.objs.size=s.heap.objs.size:=by rw[rM.1,rN.1,kL.1,hs₂.1,hs₁.1]
 have HX:IsZip h₅ z TI TO .ellipsis:=rM.extBut _ _ D.TOz.symm (rN.extBut _ _ D.i2z.symm (kL.extBut _ _ D.TOz.symm (hs₂.extBut _ _ D.i1z.symm rL)))
 have Ii:∀e o,e≠z->e≠TO->e≠i1->e≠i2->s.heap.get? e=some o->h₅.get? e=some o:=λe o e1 e2 e3 e4 q =>
  rM.extBut _ _ e2 (rN.extBut _ _ e4 (kL.extBut _ _ e2 (hs₂.extBut _ _ e3 (hs₁.extBut _ _ e1 q))))
 have MO:c.Dk h₅ i1 (i+1):=Cp.jm Il λo e=>rM.extBut _ _ D.TOi1.symm (rN.extBut _ _ D.i12 (kL.extBut _ _ D.TOi1.symm e))
 have MM:d.Dk h₅ i2 (i+1):=Cp.jm MN λo e=>rM.extBut _ _ D.TOi2.symm e
 have Mq:z<h₅.objs.size:=Heap.lt_size HX
 show wpAny _ _ (Builtin.SmallTypes.ownedTupleHandOut (.ref z) (.ref h₅.objs.size) >>= _) _ _ _
 refine wpAny_bind ?_
 unfold Builtin.SmallTypes.ownedTupleHandOut
 have Mp:IsZip (h₅.push { cls:=.type "tuple",data:=.seq #[u,v] }) z TI TO .ellipsis:=Heap.get?_push_of_some _ HX
 refine wpAny_bind (wpAny_setField_rec Mp (by simp) λRf Fc Ie=>?_)
 replace Fc:IsZip Rf z TI TO (rawInt h₅.objs.size):=Fc
 refine wpAny_setField_rec Fc (by simp) λG0 Ca Ic=>?_
 replace Ca:IsZip G0 z TI TO (rawInt h₅.objs.size):=Ca
 have up:∀e o,e≠z->h₅.get? e=some o->G0.get? e=some o:=λe o e1 q=>Ic.extBut _ _ e1 (Ie.extBut _ _ e1 (Heap.get?_push_of_some _ q))
 have Ik:IsPair G0 h₅.objs.size u v:=Ic.extBut _ _ (Nat.ne_of_gt Mq) (Ie.extBut _ _ (Nat.ne_of_gt Mq) (Heap.get?_push_size _ rfl))
 rw[hsz]at Ca Ik
 refine wpAny_pure ⟨_,rfl,wpAny_pure ?_⟩
 show Q (some (.ref h₅.objs.size)) _
 rw[hsz]
 exact hQ u v G0 _ ru rv ⟨Ca,up _ _ D.TIz (Ii _ _ D.TIz D.TITO D.TIi1 D.TIi2 hTI),⟨_,_,up _ _ D.TOz xF⟩,Cp.jm MO λo e=>up _ o D.i1z e,Cp.jm MM λo e=>up _ o D.i2z e,c1,c2⟩ Ik
  λe o e1 e2 e3 e4 q=>up e o e1 (Ii e o e1 e2 e3 e4 q)
theorem Gb{z TI TO i1 i2:Addr}{i:Nat}{Q:Option Value->Shared->Prop}(hh:A.handled=none)(D:uK z TI TO i1 i2)(Z:CF s.heap z TI TO i1 i2 c d .none i)
  (sc:c.src s.heap xs) (sd:d.src s.heap ys) (hend:xs[i]? =none\/ys[i]? =none)
  (hQ:∀h' tk,(∀b o,b≠z->b≠TO->b≠i1->b≠i2->s.heap.get? b=some o->h'.get? b=some o)->Q none { s with heap:=h',toks:=tk }) :
  wpAny (model prog w) A (pyNext (.ref z)) Q E s:=by
 obtain⟨hz,hTI,⟨a,b,hTO⟩,h1,h2,c1,c2⟩:=id Z
 have hT:s.TypeIs (.ref z) "zip" :=⟨_,hz,rfl⟩
 obtain⟨QT,T1,_,hi1,M6,_,Ma,HR⟩:=Cp.lZ h1
 have cz:c.off z:=Cp.nj sc hz rfl (by decide) (by decide)
 have dz:d.off z:=Cp.nj sd hz rfl (by decide) (by decide)
 have ci:c.off i1:=Cp.nj sc hi1 M6 Ma HR
 have di:d.off i1:=Cp.nj sd hi1 M6 Ma HR
 have stop:∀(h':Heap) (e:Addr) (tk:Nat),(∃o,h'.get? e=some o/\o.cls= .type "StopIteration")->(∀b o,b≠z->b≠TO->b≠i1->b≠i2->s.heap.get? b=some o->h'.get? b=some o) →
   wpAny (model prog w) A (isInstance (.ref e) (.type "StopIteration") >>= λb=>if b=true then pure (none:Option Value)else throw (.ref e)) Q E { s with heap:=h',toks:=tk }:=by
  intro h' e tk he hk
  obtain⟨o,ho,hc⟩:=he
  refine wpAny_bind (wpAny_isInstance (T:= "StopIteration") (b:=true) ⟨o,ho,hc⟩ isSubtype_stop ?_)
  exact wpAny_pure (hQ _ _ hk)
 unfold pyNext
 refine wpAny_bind (wpAny_attempt (wpAny_callSpecial?_slot (name:=Str.ofString "__next__") hT F.slot_zip_next
  (wpAny_call_entry F.slot_zip_next hT F.entry_zip_next ?_ (F.args_zip_next_1 _))))
 show wpAny _ _ (field (.ref z) 2 >>= _) _ _ _
 refine wpAny_bind (wpAny_field hz rfl (x:=.bool false) rfl ?_)
 show wpAny _ _ (field (.ref z) 3 >>= _) _ _ _
 refine wpAny_bind (wpAny_field hz rfl (x:=.ref TI) rfl ?_)
 refine wpAny_bind (wpAny_seqItems hTI rfl ?_)
 show wpAny _ _ (Builtin.SmallTypes.ownedTupleIsFree (.ref z) >>= _) _ _ _
 refine wpAny_bind ?_
 unfold Builtin.SmallTypes.ownedTupleIsFree
 refine wpAny_bind (wpAny_field hz rfl (x:=.none) rfl (wpAny_pure ?_))
 simp only[if_true]
 refine wpAny_bind (wpAny_rule ?_)
 refine wpAny_bind (wpAny_field hz rfl (x:=.ref TO) rfl ?_)
 refine wpAny_bind (wpAny_setField_rec hz (by simp) λh₁ rL hs₁=>?_)
 replace rL:IsZip h₁ z TI TO .ellipsis:=rL
 refine wpAny_bind ?_
 simp only[List.zipIdx_cons,List.zipIdx_nil,List.forIn_cons,List.forIn_nil]
 refine wpAny_bind (wpAny_bind (wpAny_onRaise ?_))
 show wpAny _ _ (Builtin.SmallTypes.nextOf (.ref i1) >>= _) _ _ _
 cases hx:xs[i]? with
 |none =>
  refine wpAny_bind (Cp.fin (c:=c) hh (Cp.jm h1 λo e=>hs₁.extBut _ _ D.i1z e) (Cp.jS sc hs₁.extBut cz) hx λh₂ e hs₂ he=>?_)
  obtain⟨oe,JZ,hce⟩:=he
  have HZ:IsZip h₂ z TI TO .ellipsis:=hs₂ _ _ D.i1z.symm rL
  have RT:e≠z:=λx=>by subst x;rw[HZ]at JZ;cases JZ;simp at hce
  refine wpAny_setField_rec HZ (by simp) λh₃ _ kL=>?_
  exact stop h₃ e _ ⟨oe,kL.extBut _ _ RT JZ,hce⟩ λk o c1 _ c3 _ x=>kL.extBut _ _ c1 (hs₂ _ _ c3 (hs₁.extBut _ _ c1 x))
 |some x =>
  have hy:ys[i]? =none:=by rcases hend with h|h;rw[hx]at h;cases h;exact h
  refine wpAny_bind (Cp.item (c:=c) (Cp.jm h1 λo e=>hs₁.extBut _ _ D.i1z e) (Cp.jS sc hs₁.extBut cz) hx λu h₂ tk₂ ru Il hs₂=>wpAny_pure ?_)
  have uv:IsPair h₂ TO a b:=hs₂.extBut _ _ D.TOi1 (hs₁.extBut _ _ D.TOz hTO)
  refine wpAny_bind (wpAny_seqItems uv rfl ?_)
  refine wpAny_bind (wpAny_updateSeq_pair uv λh₃ xG kL=>?_)
  refine wpAny_bind (wpAny_letGo (wpAny_pure ?_))
  refine wpAny_bind (wpAny_bind (wpAny_onRaise ?_))
  show wpAny _ _ (Builtin.SmallTypes.nextOf (.ref i2) >>= _) _ _ _
  refine wpAny_bind (Cp.fin (c:=d) hh (Cp.jm h2 λo e=>kL.extBut _ _ D.TOi2.symm (hs₂.extBut _ _ D.i12.symm (hs₁.extBut _ _ D.i2z e))) (Cp.jS (Cp.jS (Cp.jS sd hs₁.extBut dz) hs₂.extBut di) kL.extBut c2) hy λh₄ e rN he=>?_)
  obtain⟨oe,JZ,hce⟩:=he
  have HY:IsZip h₄ z TI TO .ellipsis:=rN _ _ D.i2z.symm (kL.extBut _ _ D.TOz.symm (hs₂.extBut _ _ D.i1z.symm rL))
  have RT:e≠z:=λx=>by subst x;rw[HY]at JZ;cases JZ;simp at hce
  refine wpAny_setField_rec HY (by simp) λh₅ _ rM=>?_
  exact stop h₅ e _ ⟨oe,rM.extBut _ _ RT JZ,hce⟩ λk o c1 c2 c3 c4 x=>rM.extBut _ _ c1 (rN _ _ c4 (kL.extBut _ _ c2 (hs₂.extBut _ _ c3 (hs₁.extBut _ _ c1 x))))
def Cp.dH(t:Tok):Cp->Obj
 | .lst a=>{ cls:=.type "list_iterator",data:=.fields #[.ref a,.int 0 0] }
 | .tup a=>{ cls:=.type "tuple_iterator",data:=.fields #[.ref a,.int 0 0] }
 | .txt x=>{ cls:=.type (strIterType x),data:=.fields #[.str x t,.int 0 0] }
def Cp.value(t:Tok):Cp->Value
 | .lst a=>.ref a
 | .tup a=>.ref a
 | .txt x=>.str x t
theorem Cp.value_of{u:Value}(r:RelV c.val u):∃t,u=c.value t:=by
 cases c with
 |lst a=>exact⟨0,r⟩
 |tup a=>exact⟨0,r⟩
 |txt x=>exact r
theorem Cp.iter{t:Tok}{Q:Value->Shared->Prop}(hs:c.src s.heap xs)(hQ:Q (.ref s.heap.objs.size) { s with heap:=s.heap.push (c.dH t) }):wpAny (model prog w) A (pyIter (c.value t)) Q E s:=by
 cases c with
 |lst a=>obtain⟨its,_,p⟩:=hs;exact wpAny_pyIter_list p hQ
 |tup a=>obtain⟨its,_,p⟩:=hs;exact wpAny_pyIter_tuple p hQ
 |txt x=>exact wpAny_pyIter_strU hQ
theorem Cp.B8{t:Tok}{h:Heap}{it:Addr}(e:h.get? it=some (c.dH t)):c.Dk h it 0:=by
 cases c with
 |lst a=>exact⟨_,e,rfl,rfl⟩
 |tup a=>exact⟨_,e,rfl,rfl⟩
 |txt x=>exact⟨t,_,e,rfl,rfl⟩
abbrev Nt(h:Heap)(o1:Obj):Heap:=h.push o1
abbrev Nr(h:Heap)(o1 o2:Obj):Heap:=(Nt h o1).push o2
abbrev Nq(h:Heap)(o1 o2:Obj):Heap:=(Nr h o1 o2).push { cls:=.type "tuple",data:=.seq #[.ref h.objs.size,.ref (Nt h o1).objs.size] }
abbrev Np(h:Heap)(o1 o2:Obj):Heap:=(Nq h o1 o2).push { cls:=.type "tuple",data:=.seq #[.none,.none] }
abbrev KP(h:Heap)(o1 o2:Obj):Heap:=(Np h o1 o2).push { cls:=.type "zip",data:=.fields #[.none,.bool false,.bool false,.ref (Nr h o1 o2).objs.size,.ref (Nq h o1 o2).objs.size] }
theorem Dd(c d:Cp)(t1 t2:Tok)(xs ys:List V):
  Meets (Builtin.«zip.__new__» ⟨[.type "zip",c.value t1,d.value t2],[]⟩) (λ_ R s=>c.src s.heap xs/\d.src s.heap ys ∧
   R (.ok (.ret (.ref (Np s.heap (c.dH t1) (d.dH t2)).objs.size))) { s with heap:=KP s.heap (c.dH t1) (d.dH t2) }) :=
 .of_wp λprog w A R s h=>by
  obtain⟨hp,g,dd,tk,os⟩:=s;obtain⟨hl1,hl2,h⟩:=h
  have hsub:=sub_zip
  have V6:c.src (Shared.heap ⟨hp,g,dd,tk,os⟩) xs:=hl1
  have V5:d.src (Shared.heap ⟨hp.push (c.dH t1),g,dd,tk,os⟩) ys:=Cp.Ec hl2 λb o e=>Heap.get?_push_of_some _ e
  wp_walk using Cp.iter (t:=t1) V6,Cp.iter (t:=t2) V5
  exact⟨_,rfl,h⟩
theorem DB{t1 t2:Tok}{Q:Value->Shared->Prop}(sc:c.src s.heap xs)(sd:d.src s.heap ys)
  (h:∀h',IsZip h' (s.heap.objs.size+4) (s.heap.objs.size+2) (s.heap.objs.size+3) .none->IsPair h' (s.heap.objs.size+2) (.ref s.heap.objs.size) (.ref (s.heap.objs.size+1)) →
   IsPair h' (s.heap.objs.size+3) .none .none->c.Dk h' s.heap.objs.size 0->d.Dk h' (s.heap.objs.size+1) 0->(∀b o,s.heap.get? b=some o->h'.get? b=some o)->Q (.ref (s.heap.objs.size+4)) { s with heap:=h' }) :
  wpAny (model prog w) A (call (.type "zip") [c.value t1,d.value t2]) Q E s:=by
 refine callType_new F.called_zip (by decide) (F.typeCall_zip_2 _ _) (F.newCall_zip_2 _ _) (λobj=>F.args_object_init_3 obj _ _) F.entry_zip_new
  (Dd c d t1 t2 xs ys) ⟨sc,sd,?_⟩
 have z1:(Nt s.heap (c.dH t1)).objs.size=s.heap.objs.size+1:=Heap.size_push ..
 have z2:(Nr s.heap (c.dH t1) (d.dH t2)).objs.size=s.heap.objs.size+2:=by rw[Heap.size_push,z1]
 have z3:(Nq s.heap (c.dH t1) (d.dH t2)).objs.size=s.heap.objs.size+3:=by rw[Heap.size_push,z2]
 have z4:(Np s.heap (c.dH t1) (d.dH t2)).objs.size=s.heap.objs.size+4:=by rw[Heap.size_push,z3]
 have Vp:(c.dH t1).isFreed=false:=by cases c<;>rfl
 have Vo:(d.dH t2).isFreed=false:=by cases d<;>rfl
 have g5:(KP s.heap (c.dH t1) (d.dH t2)).get? (Np s.heap (c.dH t1) (d.dH t2)).objs.size=some _:=Heap.get?_push_size _ rfl
 have g4:(KP s.heap (c.dH t1) (d.dH t2)).get? (Nq s.heap (c.dH t1) (d.dH t2)).objs.size=some _:=Heap.get?_push_of_some _ (Heap.get?_push_size _ rfl)
 have g3:(KP s.heap (c.dH t1) (d.dH t2)).get? (Nr s.heap (c.dH t1) (d.dH t2)).objs.size=some _:=Heap.get?_push_of_some _ (Heap.get?_push_of_some _ (Heap.get?_push_size _ rfl))
 have g2:(KP s.heap (c.dH t1) (d.dH t2)).get? (Nt s.heap (c.dH t1)).objs.size=some _:=Heap.get?_push_of_some _ (Heap.get?_push_of_some _ (Heap.get?_push_of_some _ (Heap.get?_push_size _ Vo)))
 have g1:(KP s.heap (c.dH t1) (d.dH t2)).get? s.heap.objs.size=some _:=Heap.get?_push_of_some _ (Heap.get?_push_of_some _ (Heap.get?_push_of_some _ (Heap.get?_push_of_some _ (Heap.get?_push_size _ Vp))))
 show _/\_
 rw[z2,z3,z4]at g5
 rw[z1,z2]at g3
 rw[z3]at g4
 rw[z1]at g2
 rw[z4]
 exact⟨⟨_,g5,rfl⟩,h _ g5 g3 g4 (Cp.B8 g1) (Cp.B8 g2) λb o x =>
  Heap.get?_push_of_some _ (Heap.get?_push_of_some _ (Heap.get?_push_of_some _ (Heap.get?_push_of_some _ (Heap.get?_push_of_some _ x))))⟩
end
section
variable{X:Cx}{pins:List (Addr×Obj)}{σ:St}{H:Hp}{s:Shared}
theorem Inv.moved{h':Heap}{t':Nat}{ch:List Addr}(I:Inv X pins σ H s)(k:∀b o,b∉ch->s.heap.get? b=some o->h'.get? b=some o)(hf:∀b∈ch,nM X pins H b)(ht:s.toks<=t':=by first|exact Nat.le_refl _|exact Nat.le_succ _|assumption|omega):Inv X pins σ H { s with heap:=h',toks:=t' }:=by
 have HQ:∀b u,H b=some u->b∉ch:=λb u e z=>by rw[(hf b z).1]at e;cases e
 refine I.step (g':=s.gens) (d':=s.drawn) (ch:=ch) (λb hb=>?_) (λb o _ _ hc e _=>k b o hc e) (λb o _ _ hc e _=>⟨o.slots,k b o hc e⟩) (λ_ _ _ _ n=>n)
  (λb o hc e=>⟨o,k b o hc e⟩) (λ_ _ e=>e) (λ_ _ _ e=>e) (λb ps e=>⟨#[],by rw[e];simp⟩) (λm hm=>?_) (λb u e=>?_) I.bare (Nat.le_trans I.up ht)
 ·obtain⟨_,h1,_,h3,h4,h5⟩:=hf b hb
  exact⟨h3,h1,h4,h5⟩
 ·obtain⟨o,es,ep,ho,r⟩:=hm
  exact⟨o,es,ep,k _ o (λz=>(hf _ z).2.1 rfl) ho,r⟩
 ·refine(I.hok b u e).stay (λc v hc q=>k c v ?_ q) (λ_ q=>q) λ_ _ q=>q
  rcases hc with z|z
  ·rw[z];exact HQ b u e
  ·exact HQ c _ z
theorem Inv.Lh{a:Addr}{o:HO}(I:Inv X pins σ H s)(hf:nM X pins H a)(new:b8 X.prog X.w (upd H a o) s.heap a o):Inv X pins σ (upd H a o) s:=by
 have hn:=hf.1
 have e:s={ s with heap:=s.heap,gens:=s.gens,drawn:=s.drawn,toks:=s.toks }:=rfl
 rw[e]
 refine I.step (ch:=[a]) (λb hb=>?_) (λ_ _ _ _ _ e _=>e) (λ_ o _ _ _ e _=>⟨o.slots,e⟩) (λb _ hc _ n=>?_)
  (λ_ o _ e=>⟨o,e⟩) (λb _ e=>?_) (λb _ _ e=>?_) (λb ps e=>⟨#[],?_⟩) (λ_ hm=>hm) (λb u q=>?_) I.bare I.up
 ·have eb:b=a:=by simpa using hb
  subst eb
  obtain⟨_,h1,_,h3,h4,h5⟩:=hf
  exact⟨h3,h1,h4,h5⟩
 ·rw[az (λz=>hc (by simp[z]))];exact n
 ·rw[az (bz e hn)];exact e
 ·rw[az (bz e hn)];exact e
 ·rw[az (bz e hn),e];simp
 ·by_cases hb:b=a
  ·subst hb;rw[af]at q;cases q;exact new
  ·rw[az hb]at q
   exact(I.hok b u q).stay (λc v _ r=>r) (λc r=>by rw[az (bz r hn)];exact r) λc xs r=>by rw[az (bz r hn)];exact r
def Nk(K:PySem.W.Frag)(c d:Cp):It :=
 ⟨λi H=>∃xs ys x y,c.at K H xs/\d.at K H ys/\xs[i]? =some x/\ys[i]? =some y,
  λi H v H'=>∃p x y,v= .ref p/\H p=none/\H'=upd H p (.tup [x,y])/\∀xs ys,c.at K H xs->d.at K H ys->xs[i]? =some x/\ys[i]? =some y,
  λi H=>∃xs ys,c.at K H xs/\d.at K H ys/\(xs.length<=i\/ys.length<=i)⟩
theorem Ea{P:Program}{w:World}{K:PySem.W.Frag}{elts:List Expr}{k:Nat}{pos:Pos}{c d:Cp}{z TI TO i1 i2:Addr}(D:uK z TI TO i1 i2):
  Turn P w K (.Tuple elts k pos) (Nk K c d) [z,TI,TO,i1,i2] z (λi h=>CF h z TI TO i1 i2 c d .none i) where
 mem:=by simp
 obj:=λi h Z b hb=>by
  obtain⟨hz,hTI,⟨a,b',hTO⟩,h1,h2,_,_⟩:=Z
  obtain⟨QT,T1,v1,hi1,_,d1,_⟩:=Cp.lZ h1
  obtain⟨Tc,T2,v2,hi2,_,d2,_⟩:=Cp.lZ h2
  simp only[List.mem_cons,List.not_mem_nil,or_false]at hb
  rcases hb with rfl|rfl|rfl|rfl|rfl
  ·exact⟨_,hz,λv q=>by cases q⟩
  ·exact⟨_,hTI,λv q=>by cases q⟩
  ·exact⟨_,hTO,λv q=>by cases q⟩
  ·exact⟨_,hi1,λv q=>by rw[d1]at q;cases q⟩
  ·exact⟨_,hi2,λv q=>by rw[d2]at q;cases q⟩
 keep:=λi h h' Z kp=>by
  obtain⟨hz,hTI,⟨a,b',hTO⟩,h1,h2,o1,o2⟩:=Z
  exact⟨kp z (by simp) _ hz,kp TI (by simp) _ hTI,⟨a,b',kp TO (by simp) _ hTO⟩,Cp.jm h1 λo e=>kp i1 (by simp) o e,Cp.jm h2 λo e=>kp i2 (by simp) o e,o1,o2⟩
 item:=by
  intro X hP hw hK hc i pins s σ H E I hf Z hg
  subst hP hw hK
  obtain⟨xs,ys,x,y,hx,hy,ex,ey⟩:=hg
  have sc:=Cp.qC I hx
  have sd:=Cp.qC I hy
  refine TK.b9 (Nat.le_refl s.toks) (DU D Z sc sd ex ey λu v h' tk ru rv Z' hp kk hup=>⟨_,rfl,?_⟩)
  refine wpAny_letOwnedTupleGo_zip Z'.zz λh'' Rh sb=>?_
  have hnz:s.heap.objs.size≠z:=Nat.ne_of_gt (Heap.lt_size Z.zz)
  have k2:∀b o,b∉[z,TI,TO,i1,i2]->s.heap.get? b=some o->h''.get? b=some o:=λb o hb e=>by
   simp only[List.mem_cons,List.not_mem_nil,or_false,not_or]at hb
   exact sb.extBut _ _ hb.1 (kk b o hb.1 hb.2.2.1 hb.2.2.2.1 hb.2.2.2.2 e)
  have I1:Inv X pins σ H { s with heap:=h'',toks:=tk }:=I.moved k2 hf
  have hn:H s.heap.objs.size=none:=I.fresh
  have N5:nM X pins H s.heap.objs.size:=I.zG (Nat.le_refl _) hn
  have hp2:IsPair h'' s.heap.objs.size u v:=sb.extBut _ _ hnz hp
  have I2:Inv X pins σ (upd H s.heap.objs.size (.tup [x,y])) { s with heap:=h'',toks:=tk } :=
   I1.Lh N5 ⟨by show 2<=sizeLine;decide,[u,v],.cons ru (.cons rv .nil),⟨_,hp2,rfl,_,rfl⟩⟩
  refine⟨.ref s.heap.objs.size,_,I2,rfl,⟨_,x,y,rfl,hn,rfl,λxs' ys' hx' hy'=>?_⟩,?_,λb hb=>?_⟩
  ·rw[Cp.FQ I hx' hx,Cp.FQ I hy' hy];exact⟨ex,ey⟩
  ·obtain⟨_,hTI,⟨a,b',hTO⟩,h1,h2,o1,o2⟩:=Z'
   exact⟨Rh,sb.extBut _ _ D.TIz hTI,⟨a,b',sb.extBut _ _ D.TOz hTO⟩,Cp.jm h1 λo e=>sb.extBut _ _ D.i1z e,Cp.jm h2 λo e=>sb.extBut _ _ D.i2z e,o1,o2⟩
  ·have lt:b<s.heap.objs.size:=by
    obtain⟨hz,hTI,⟨a,b',hTO⟩,h1,h2,_,_⟩:=Z
    obtain⟨QT,T1,v1,hi1,_,d1,_⟩:=Cp.lZ h1
    obtain⟨Tc,T2,v2,hi2,_,d2,_⟩:=Cp.lZ h2
    simp only[List.mem_cons,List.not_mem_nil,or_false]at hb
    rcases hb with rfl|rfl|rfl|rfl|rfl
    ·exact Heap.lt_size hz
    ·exact Heap.lt_size hTI
    ·exact Heap.lt_size hTO
    ·exact Heap.lt_size hi1
    ·exact Heap.lt_size hi2
   rw[az (Nat.ne_of_lt lt)]
   exact(hf b hb).1
 done:=by
  intro X hP hw hK hc i pins s σ H E I hf Z hg
  subst hP hw hK
  obtain⟨xs,ys,hx,hy,he⟩:=hg
  refine TK.b9 (Nat.le_refl s.toks) (Gb (I.ok.hd hc) D Z (Cp.qC I hx) (Cp.qC I hy) (he.imp (λq=>List.getElem?_eq_none q) λq=>List.getElem?_eq_none q) λh' tk kk hup=>⟨rfl,?_⟩)
  exact I.moved (λb o hb e=>by
   simp only[List.mem_cons,List.not_mem_nil,or_false,not_or]at hb
   exact kk b o hb.1 hb.2.2.1 hb.2.2.2.1 hb.2.2.2.2 e) hf
 self:=λ_ _ _ _ _ Z h=>wpAny_pyIter_zip Z.zz h
theorem z9(n:Nat):uK (n+4) (n+2) (n+3) n (n+1):=by
 have ne:∀{a b:Nat},a<b->a≠b:=λh=>Nat.ne_of_lt h
 exact⟨ne (by omega),ne (by omega),ne (by omega),ne (by omega),ne (by omega),(ne (by omega)).symm,(ne (by omega)).symm,(ne (by omega)).symm,(ne (by omega)).symm,ne (by omega)⟩
def Rb(K:PySem.W.Frag)(ta:TA):TI:=λσ H R=>ta σ H λvs H1=>∃c d xs ys,vs=[c.val,d.val]/\c.at K H1 xs/\d.at K H1 ys/\R (Nk K c d) H1
theorem AA {a b:Expr} {ta:TA} {p pos:Pos} {elts:List Expr} {k:Nat} {tpos:Pos} (hc:X.calm=true) (hg:Gl X "zip") (hm:X.mg "zip" =none) (ha:PA X [a,b] ta)
  (hs:starEach [a,b] X.env=[(false,eval a X.env),(false,eval b X.env)]:=by rfl) (hs2:starEach [b] X.env=[(false,eval b X.env)]:=by rfl) :
  PI X (.Tuple elts k tpos) (.Call (.Name "zip" p) [a,b] [] pos) (Rb X.K ta):=by
 intro pins s σ H R I h
 refine Call_ (um I hg hm boot_zip (PyProof.Rows.callWith_type1 (fK (ha pos pins s σ H _ I h) λus s1 ⟨vs,H1,I1,r1,q1⟩=>?_) (by rw[hs,hs2]) (by rw[hs2];rfl)))
 obtain⟨c,d,xs,ys,e,hx,hy,q⟩:=q1
 subst e
 obtain⟨u,v,rfl,ru,rv⟩:=vals2 r1
 obtain⟨t1,rfl⟩:=Cp.value_of ru
 obtain⟨t2,rfl⟩:=Cp.value_of rv
 have sc:=Cp.qC I1 hx
 have sd:=Cp.qC I1 hy
 refine DB sc sd λh' hz hTI hTO h1 h2 kk=>wpAny_pyIter_zip hz ?_
 have D:uK (s1.heap.objs.size+4) (s1.heap.objs.size+2) (s1.heap.objs.size+3) s1.heap.objs.size (s1.heap.objs.size+1) :=
  z9 _
 refine⟨_,[s1.heap.objs.size+4,s1.heap.objs.size+2,s1.heap.objs.size+3,s1.heap.objs.size,s1.heap.objs.size+1],_,_,H1,rfl,I1.kept (t':=s1.toks) kk,Ea D,
  ⟨hz,hTI,⟨_,_,hTO⟩,h1,h2,Cp.BV sc (Nat.le_add_right _ 3),Cp.BV sd (Nat.le_add_right _ 3)⟩,λb hb=>?_,q⟩
 have le:s1.heap.objs.size<=b:=by
  simp only[List.mem_cons,List.not_mem_nil,or_false]at hb
  rcases hb with rfl|rfl|rfl|rfl|rfl
  ·exact Nat.le_add_right _ _
  ·exact Nat.le_add_right _ _
  ·exact Nat.le_add_right _ _
  ·exact Nat.le_refl _
  ·exact Nat.le_add_right _ _
 exact I1.zG le (I1.hok.fresh le)
end
end L2
namespace L2
open PySem PySem.Spec PyProof.Rows
def Nl(x:Str):It:=⟨λi _=>i<x.cps.size,λi H v H'=>H'=H/\∃k,x.cps[i]? =some k/\v= .str ⟨#[k]⟩,λi _=>x.cps.size<=i⟩
section
variable{prog:Program}{w:World}{A:Around}{E:Value->Shared->Prop}{s:Shared}
theorem mF{it:Addr}{x:Str}{t:Tok}{i k:Nat}{Q:Option Value->Shared->Prop}(hit:s.heap.IsStrIter it (strIterType x) x t i)(hx:x.cps[i]? =some k)
  (hQ:∀h',h'.IsStrIter it (strIterType x) x t (i+1)->Heap.SameBut it s.heap h'->Q (some (.str ⟨#[k]⟩ s.toks)) { s with heap:=h',toks:=s.toks+1 }):wpAny (model prog w) A (pyNext (.ref it)) Q E s:=by
 unfold strIterType at hit hQ
 by_cases ha:(x.cps.all (·<128))=true
 ·rw[if_pos ha]at hit hQ
  exact wpAny_pyNext_ascii_item hit hx hQ
 ·rw[if_neg ha]at hit hQ
  exact wpAny_pyNext_wide_item hit hx hQ
theorem mZ{it:Addr}{x:Str}{t:Tok}{i:Nat}{Q:Option Value->Shared->Prop}(hh:A.handled=none)(hit:s.heap.IsStrIter it (strIterType x) x t i)(hx:x.cps[i]? =none)
  (hQ:∀h',Heap.ExtBut it s.heap h'->Q none { s with heap:=h' }):wpAny (model prog w) A (pyNext (.ref it)) Q E s:=by
 unfold strIterType at hit
 by_cases ha:(x.cps.all (·<128))=true
 ·rw[if_pos ha]at hit
  exact wpAny_pyNext_ascii_end hh hit hx hQ
 ·rw[if_neg ha]at hit
  exact wpAny_pyNext_wide_end hh hit hx hQ
theorem m5{it:Addr}{x:Str}{t:Tok}{i:Nat}{Q:Value->Shared->Prop}(hit:s.heap.IsStrIter it (strIterType x) x t i)(h:Q (.ref it) s):wpAny (model prog w) A (pyIter (.ref it)) Q E s:=by
 unfold strIterType at hit
 by_cases ha:(x.cps.all (·<128))=true
 ·rw[if_pos ha]at hit
  exact wpAny_pyIter_striter_ascii hit h
 ·rw[if_neg ha]at hit
  exact wpAny_pyIter_striter_wide hit h
end
theorem qA(x:Str):["enumerate","zip","dict_itemiterator","dict_reverseitemiterator","odict_iterator","itertools.zip_longest","itertools.pairwise"].contains (strIterType x)=false:=by
 unfold strIterType
 split<;>decide
theorem yz{P:Program}{w:World}{K:PySem.W.Frag}{tg:Expr}(x:Str)(t:Tok)(it:Addr):Turn P w K tg (Nl x) [it] it (λi h=>h.IsStrIter it (strIterType x) x t i) where
 mem:=by simp
 obj:=λi h st b hb=>by
  have e:b=it:=by simpa using hb
  subst e
  obtain⟨o,e,c,d⟩:=st
  exact⟨o,e,λv z=>by rw[d]at z;cases z⟩
 keep:=λi h h' st k=>by
  obtain⟨o,e,r⟩:=st
  exact⟨o,k it (by simp) o e,r⟩
 item:=by
  intro X hP hw hK hc i pins s σ H E I hf st hg
  subst hP hw hK
  have hi:i<x.cps.size:=hg
  obtain⟨f0,f1,f2,f3,f4,f5⟩:=hf it (by simp)
  refine mF st (k:=x.cps[i]) (by simp[hi]) λh' st' sb=>?_
  have I1:Inv X pins σ H { s with heap:=h',toks:=s.toks+1 }:=I.turned (λb o hb e=>(sb.2 b hb).trans e) f0 f1 f3 f4 f5
  obtain⟨o,e,c,d⟩:=id st'
  exact⟨_,rfl,Cj (s:={ s with heap:=h',toks:=s.toks+1 }) e c d (qA x) ⟨.str ⟨#[x.cps[i]]⟩,H,I1,⟨_,rfl⟩,⟨rfl,_,by simp[hi],rfl⟩,st',λb hb=>(hf b hb).1⟩⟩
 done:=by
  intro X hP hw hK hc i pins s σ H E I hf st hg
  subst hP hw hK
  have hi:x.cps.size<=i:=hg
  obtain⟨f0,f1,f2,f3,f4,f5⟩:=hf it (by simp)
  exact mZ (I.ok.hd hc) st (by simp[hi]) λh' eb=>⟨rfl,I.turned (t':=s.toks) (λb o hb e=>eb b o hb e) f0 f1 f3 f4 f5⟩
 self:=λ_ _ _ _ _ st h=>m5 st h
section
variable{X:Cx}{tg:Expr}
def Rc(tl:TE):TI:=λσ H R=>tl σ H λv H1=>∃x,v= .str x/\R (Nl x) H1
theorem AB{l:Expr}{tl:TE}(hl:PE X l tl):PI X tg l (Rc tl):=by
 intro pins s σ H R I h
 refine fK (hl pins s σ H _ I h) λv s1 ⟨y,H1,I1,r1,q1⟩=>?_
 obtain⟨x,e,q⟩:=q1
 subst e
 obtain⟨t,rfl⟩:=r1
 refine wpAny_pyIter_strU ?_
 refine⟨s1.heap.objs.size,[s1.heap.objs.size],_,_,H1,rfl,I1.kept (t':=s1.toks) λb o e=>Heap.get?_push_of_some _ e,yz x t _,⟨_,Heap.get?_push_size _ rfl,rfl,rfl⟩,λb hb=>?_,q⟩
 have e:b=s1.heap.objs.size:=by simpa using hb
 subst e
 exact I1.zG (Nat.le_refl _) (I1.hok.fresh (Nat.le_refl _))
theorem Hg{x:Str}{g:TG}{tb:TS}{D:Ends}{σ:St}{H:Hp}(Pv:Nat->St->Hp->Prop)(h0:Pv 0 σ H)
  (hs:∀i k σ H,x.cps[i]? =some k->Pv i σ H->g (.str ⟨#[k]⟩) σ H λσ2 H2=>tb { D with nx:=Pv (i+1),ct:=Pv (i+1),bk:=D.nx } σ2 H2) (hd:∀ σ H,Pv x.cps.size σ H->D.nx σ H) :
  ∃W:Nat->Nat->St->Hp->Prop,(∃m,W 0 m σ H)/\∀i m σ H,W i m σ H →
   ((Nl x).stop i H/\D.nx σ H)\/((Nl x).go i H/\∃N:St->Hp->Prop,(∀ σ' H',N σ' H'->∃m',m'<m/\W (i+1) m' σ' H')/\∀y H',(Nl x).Bl i H y H'->g y σ H' λσ2 H2=>tb { D with nx:=N,ct:=N,bk:=D.nx } σ2 H2):=by
 refine⟨λi m σ H=>m=x.cps.size-i/\i<=x.cps.size/\Pv i σ H,⟨x.cps.size,by simp,Nat.zero_le _,h0⟩,?_⟩
 rintro i m σ H ⟨rfl,hi,p⟩
 by_cases hlt:i<x.cps.size
 ·refine .inr ⟨hlt,Pv (i+1),λσ' H' p'=>⟨x.cps.size-(i+1),by omega,rfl,hlt,p'⟩,λy H' q=>?_⟩
  obtain⟨e,k,ek,rfl⟩:=q
  subst e
  exact hs i k σ _ ek p
 ·have e:i=x.cps.size:=by omega
  subst e
  exact .inl ⟨Nat.le_refl _,hd σ H p⟩
theorem Cm{K:PySem.W.Frag}{c d:Cp}{xs ys:List V}{g:TG}{tb:TS}{D:Ends}{σ:St}{H:Hp}(Pv:Nat->St->Hp->Prop)(h0:Pv 0 σ H)(hl:∀i σ H,i<=min xs.length ys.length->Pv i σ H->c.at K H xs/\d.at K H ys)
  (hs:∀i x y p σ H,xs[i]? =some x->ys[i]? =some y->H p=none->Pv i σ H->g (.ref p) σ (upd H p (.tup [x,y])) λσ2 H2=>tb { D with nx:=Pv (i+1),ct:=Pv (i+1),bk:=D.nx } σ2 H2)
  (hd:∀ σ H,Pv (min xs.length ys.length) σ H->D.nx σ H) :
  ∃W:Nat->Nat->St->Hp->Prop,(∃m,W 0 m σ H)/\∀i m σ H,W i m σ H →
   ((Nk K c d).stop i H/\D.nx σ H)\/((Nk K c d).go i H/\∃N:St->Hp->Prop,(∀ σ' H',N σ' H'->∃m',m'<m/\W (i+1) m' σ' H')/\∀y H',(Nk K c d).Bl i H y H'->g y σ H' λσ2 H2=>tb { D with nx:=N,ct:=N,bk:=D.nx } σ2 H2):=by
 refine⟨λi m σ H=>m=min xs.length ys.length-i/\i<=min xs.length ys.length/\Pv i σ H,⟨min xs.length ys.length,by simp,Nat.zero_le _,h0⟩,?_⟩
 rintro i m σ H ⟨rfl,hi,p⟩
 obtain⟨zx,zy⟩:=hl i σ H hi p
 by_cases hlt:i<min xs.length ys.length
 ·have h1:i<xs.length:=by omega
  have h2:i<ys.length:=by omega
  refine .inr ⟨⟨xs,ys,xs[i],ys[i],zx,zy,by simp[h1],by simp[h2]⟩,Pv (i+1),λσ' H' p'=>⟨min xs.length ys.length-(i+1),by omega,rfl,hlt,p'⟩,λv H' q=>?_⟩
  obtain⟨a,x,y,rfl,ha,rfl,e⟩:=q
  obtain⟨e1,e2⟩:=e xs ys zx zy
  exact hs i x y a σ H e1 e2 ha p
 ·have e:i=min xs.length ys.length:=by omega
  subst e
  refine .inl ⟨⟨xs,ys,zx,zy,?_⟩,hd σ H p⟩
  rcases Nat.le_total xs.length ys.length with q|q
  ·exact .inl (by rw[Nat.min_eq_left q];exact Nat.le_refl _)
  ·exact .inr (by rw[Nat.min_eq_right q];exact Nat.le_refl _)
end
end L2
namespace L2
open PySem PySem.Spec PyProof.Rows
section
variable{prog:Program}{w:World}{A:Around}{E:Value->Shared->Prop}{s:Shared}
end
section
variable{X:Cx}
end
end L2
namespace L2
open PySem PySem.Spec PyProof.Rows
set_option maxRecDepth 100000
def met(val:Nat->Str)(i:Nat):List Str:=((List.range i).map val).foldl step_dedup []
theorem ua(val:Nat->Str):met val 0=[]:=rfl
theorem jJ(val:Nat->Str)(i:Nat):met val (i+1)=step_dedup (met val i) (val i):=by
 unfold met;rw[List.range_succ,List.map_append,List.foldl_append];rfl
theorem kZ(val:Nat->Str):∀i,(met val i).length<=i
 | 0=>by rw[ua];exact Nat.le_refl _
 |i+1=>by
  rw[jJ]
  have ih:=kZ val i
  unfold step_dedup
  split
  ·omega
  ·rw[List.length_append,List.length_singleton];omega
theorem lW(σ:List Str)(v k:Str):(step_dedup σ v).any (·==k)=(σ.any (·==k)||decide (k=v)):=by
 unfold step_dedup
 by_cases h:σ.any (·==v)=true
 ·rw[if_pos h]
  by_cases e:k=v
  ·subst e;rw[h];simp
  ·simp[e]
 ·rw[if_neg h,List.any_append]
  by_cases e:k=v
  ·subst e;simp
  ·have hb:(v==k)=false:=by simpa[beq_iff_eq]using(λh':v=k=>e h'.symm)
   simp[hb,e]
theorem iF(σ:List Str)(v:Str):(step_dedup σ v).length=if σ.any (·==v)then σ.length else σ.length+1:=by
 unfold step_dedup;split<;>simp
section
variable{prog:Program}{w:World}{A:Around}{R:Result->Shared->Prop}{I:Addr}{fp wr:List Addr}{G:Array GenState->Array GenState->Prop}{n:Nat}{P:Nat->Value->Prop}{St:Nat->Shared->Prop}
theorem wW(W:WalksS prog w A.in1 I fp wr G n P St)(S:Addr)(hSf:S∉fp)(val:Nat->Str)(hval:∀i v,P i v->∃t,v= .str (val i) t)(hb:n+1<scanBound):
  ∀(k i:Nat) (s:Shared),n-i=k->i<=n->St i s->s.heap.SetOf (strKind prog w) S (λk'=>(met val i).any (·==k')) (met val i).length →
   (∀s',Moved (S::wr) G s s'->s'.heap.SetOf (strKind prog w) S (λk'=>(met val n).any (·==k')) (met val n).length->R (.ok (.ret .none)) s') →
   codeAny (model prog w) A (.builtin "set.update.loop" ⟨[.ref S,.ref I],[]⟩) R s:=by
 have T6:S∉wr:=λh=>hSf (W.sub _ h)
 have hsub:∀b∈wr,b∈S::wr:=λb hb=>List.mem_cons_of_mem _ hb
 intro k
 induction k with
 |zero =>
  intro i s hk hi hst hS hR
  have hin:i=n:=by omega
  subst hin
  refine codeAny_builtin PyProof.Rows.F.entry_set_update_loop ?_
  rw[Around.under_plainId PyProof.Rows.F.plain_set_update_loop _]
  show wpAny _ A.in1 (pyNext (.ref I) >>= _) _ _ s
  refine wpAny_bind (W.done s _ _ hst λs' hm=>?_)
  show wpAny _ A.in1 (ret Value.none) _ _ s'
  exact wpAny_pure (hR s' (hm.mono hsub) (by
   obtain⟨o,es,ep,t,ho,rest⟩:=hS
   exact⟨o,es,ep,t,hm.heap S _ T6 ho,rest⟩))
 |succ k ih =>
  intro i s hk hi hst hS hR
  have hlt:i<n:=by omega
  refine codeAny_builtin PyProof.Rows.F.entry_set_update_loop ?_
  rw[Around.under_plainId PyProof.Rows.F.plain_set_update_loop _]
  show wpAny _ A.in1 (pyNext (.ref I) >>= _) _ _ s
  refine wpAny_bind (W.item i s _ _ hlt hst λv s' hP Rn hm=>?_)
  obtain⟨t,rfl⟩:=hval i v hP
  have hS':s'.heap.SetOf (strKind prog w) S (λk'=>(met val i).any (·==k')) (met val i).length:=by
   obtain⟨o,es,ep,tb,ho,rest⟩:=hS
   exact⟨o,es,ep,tb,hm.heap S _ T6 ho,rest⟩
  show wpAny _ A.in1 (holding [Value.str (val i) t] (setAdd S (.str (val i) t)) >>= _) _ _ s'
  refine wpAny_bind (wpAny_holding ?_)
  unfold setAdd
  refine wpAny_holding ?_
  refine wpAny_bind ((strKind prog w).pyHash (k:=val i) (strKind_is _ _ _ _) ?_)
  have hroom:(met val i).length+1<scanBound:=by have:=kZ val i;omega
  refine wpAny_setAddHashed_of (knd:=strKind prog w) (s:={ s' with toks:=s'.toks+1 }) (strKind_is _ _ _ _) rfl hS' hroom λh' Tz G7=>?_
  have V0:h'.SetOf (strKind prog w) S (λk'=>(met val (i+1)).any (·==k')) (met val (i+1)).length :=
   SetOf_congr G7 (λk'=>by rw[jJ,lW]) (by rw[jJ,iF])
  refine wpAny_pure ⟨plainId_quiet PyProof.Rows.F.plain_set_update_loop _,ih (i+1) _ (by omega) hlt (W.frame _ s' _ _ Rn (Nat.le_succ _) λb hb o e=>?_) V0 λs'' RI R3=>?_⟩
  ·rw[Tz.2 b (λh:b=S=>hSf (by rw[←h];exact hb))];exact e
  ·refine hR s'' (Moved.trans W.gtrans ((hm.mono hsub).then_heap (Nat.le_succ _) λb o hb e=>?_) RI) R3
   rw[Tz.2 b (λh:b=S=>hb (by rw[h];exact List.mem_cons_self))];exact e
end
def gK(x:Str)(i:Nat):Str:=⟨#[x.cps.getD i 0]⟩
theorem CI{prog:Program}{w:World}{A:Around}(hh:A.handled=none)(I:Addr)(x:Str)(t:Tok):
  Walks prog w A I [I] [I] x.cps.size (λi v=>∃u,v= .str (gK x i) u) (λi h=>h.IsStrIter I (strIterType x) x t i) where
 sub:=λ_ hb=>hb
 frame:=λ_ _ _ st hk=>let ⟨o,ho,r⟩:=st;⟨o,hk I (by simp) o ho,r⟩
 item:=λi s Q E hi st hQ=>by
  refine mF st (k:=x.cps.getD i 0) (by simp[hi]) λh' RL hs'=>?_
  exact hQ _ h' (s.toks+1) ⟨_,rfl⟩ RL λb o hb e=>hs'.extBut b o (λh=>hb (by simp[h])) e
 done:=λs Q E st hQ=>mZ hh st (by simp) λh' he'=>hQ h' s.toks λb o hb e=>he' b o (λh=>hb (by simp[h])) e
 self:=λ_ _ _ _ st hQ=>m5 st hQ
theorem wO:isSubtype (.type "str") (.type "set")=pure false:=by rw[isSubtype_type];kernel_rfl
theorem oW:isSubtype (.type "str") (.type "frozenset")=pure false:=by rw[isSubtype_type];kernel_rfl
section
variable{prog:Program}{w:World}{A:Around}{E:Value->Shared->Prop}{s:Shared}
set_option maxHeartbeats 3200000 in
theorem xN{x:Str}{t:Tok}{Q:Value->Shared->Prop}(hh:A.handled=none)(hb:x.cps.size+1<scanBound)
  (h:∀(h':Heap) (tk:Nat),h'.SetOf (strKind prog w) s.heap.objs.size (λk'=>(met (gK x) x.cps.size).any (·==k')) (met (gK x) x.cps.size).length →
   (∀b o,b<s.heap.objs.size->s.heap.get? b=some o->h'.get? b=some o)->Q (.ref s.heap.objs.size) { s with heap:=h',toks:=tk }) :
  wpAny (model prog w) A (call (.type "set") [.str x t]) Q E s:=by
 obtain⟨c,tl,VI⟩:=F.called_set.mro
 have hmade:=F.called_set.made
 have hsub:=F.called_set.sub
 refine wpAny_call (codeAny_of_tree ?_)
 show wpAny _ _ (callAny (.type "set") _) _ _ _
 refine wpAny_pure ⟨Code.quiet_builtin _ (by decide +kernel),codeAny_builtin F.entry_type_call ?_⟩
 rw[Around.under_plain (weight_type_call_type "set" [.str x t] []) rfl]
 have h1:=F.called_set.notType
 have h2:=F.called_set.canCreate
 have hct:=F.typeCall_set_1 (.str x t)
 repeat (any_goals (first|assumption|wp_step))
 refine codeAny_mono (code_set_new_1 (.str x t) (E:=E) (Q₁:=λobj s₁=>∃led:Bool,obj= .ref s.heap.objs.size/\s₁={ s with heap:=s.heap.push { cls:=.type "set",dict:=none,data:=.set #[] 0 (.fresh 0 0 led) } }) λled=>⟨led,rfl,rfl⟩) λr s₁ hr=>?_
 cases r with
 |error e=>exact hr
 |ok fl =>
  cases fl with
  |ret obj =>
   obtain⟨led,rfl,rfl⟩:=hr
   have hS:(s.heap.push { cls:=.type "set",dict:=none,data:=.set #[] 0 (.fresh 0 0 led) }).get? s.heap.objs.size=some { cls:=.type "set",dict:=none,data:=.set #[] 0 (.fresh 0 0 led) }:=Heap.get?_push_size _ rfl
   have hT:Shared.TypeIs { s with heap:=s.heap.push { cls:=.type "set",dict:=none,data:=.set #[] 0 (.fresh 0 0 led) } } (.ref s.heap.objs.size) "set" :=⟨_,hS,rfl⟩
   have hli:=F.called_set.init.lookup
   have hbi:=F.called_set.init.bind (.ref s.heap.objs.size)
   repeat (any_goals (first|assumption|wp_step))
   refine codeAny_mono (codeAny_call_builtin (R:=wants (λr s₂=>r= .none/\∃h' tk,s₂={ s with heap:=h',toks:=tk } ∧
     h'.SetOf (strKind prog w) s.heap.objs.size (λk'=>(met (gK x) x.cps.size).any (·==k')) (met (gK x) x.cps.size).length ∧
     (∀b o,b<s.heap.objs.size->s.heap.get? b=some o->h'.get? b=some o)) E) F.called_set.init.plain F.entry_set_init (check_set_init_1 hT ?_)) λr₂ s₂ Ff=>?_
   ·have Vy:=wO
    have Vz:=oW
    have hne:(Value.type "str" ==Value.type "dict")=false:=by decide
    unfold Builtin.«set.__init__» noKeywords Builtin.Frozenset.updateFrom
    generalize V2:pyIter=PI
    wp_walk
    subst V2
    refine wpAny_pyIter_strU ?_
    refine wpAny_bind (wpAny_runValue ?_)
    have VO:A.in1.in1.in1.handled=none:=by simp[hh]
    have hSf:s.heap.objs.size∉[(s.heap.push { cls:=.type "set",dict:=none,data:=.set #[] 0 (.fresh 0 0 led) }).objs.size]:=by
     rw[Heap.size_push];simp only[List.mem_singleton]
     exact Nat.ne_of_lt (Nat.lt_succ_self _)
    refine wW ((CI VO _ x t).toS) s.heap.objs.size hSf (gK x) (λi v hv=>hv) hb (x.cps.size-0) 0 _ (by omega) (Nat.zero_le _)
     ⟨_,Heap.get?_push_size _ rfl,rfl,rfl⟩ ?hS0 ?hR
    case hS0 =>
     have hget:((s.heap.push { cls:=.type "set",dict:=none,data:=.set #[] 0 (.fresh 0 0 led) }).push { cls:=.type (strIterType x),data:=.fields #[.str x t,.int 0 0] }).get? s.heap.objs.size
       = some { cls:=.type "set",dict:=none,data:=.set #[] 0 (.fresh 0 0 led) }:=Heap.get?_push_of_some _ hS
     exact SetOf_congr ((setObjOf_fresh (knd:=strKind prog w) led).setOf hget (by unfold scanBound;omega)) (λ_=>rfl) rfl
    case hR =>
     intro s' hm hS'
     obtain⟨h',g',d',tk',os'⟩:=s'
     have eg:g'=s.gens:=hm.gens
     have ed:d'=s.drawn:=hm.drawn
     have eo:os'=s.os:=hm.os
     subst eg;subst ed;subst eo
     show wpAny _ _ _ _ _ _
     refine wpAny_pure ?_
     show wpAny _ _ (ret Value.none) _ _ _
     refine wpAny_pure ⟨rfl,h',tk',rfl,hS',λb o hb e=>?_⟩
     have hb1:b≠s.heap.objs.size:=Nat.ne_of_lt hb
     have hb2:b≠(s.heap.push { cls:=.type "set",dict:=none,data:=.set #[] 0 (.fresh 0 0 led) }).objs.size:=by
      rw[Heap.size_push];exact Nat.ne_of_lt (Nat.lt_succ_of_lt hb)
     exact hm.heap b o (by simp only[List.mem_cons,List.mem_singleton,List.not_mem_nil,or_false,not_or];exact⟨hb1,hb2⟩) (Heap.get?_push_of_some _ (Heap.get?_push_of_some _ e))
   ·cases r₂ with
    |error e=>exact Ff
    |ok MR =>
     cases MR with
     |ret r =>
      obtain⟨rfl,h',tk,rfl,hS',hk'⟩:=Ff
      repeat (any_goals (first|assumption|wp_step))
      exact h _ _ hS' hk'
     |_=>exact Ff.elim
  |_=>exact hr.elim
end
end L2
namespace L2
open PySem PySem.Spec PyProof.Rows
def Ly(P:Program)(w:World)(a:Addr)(n:Nat):HO:=.ext λh=>∃S,h.SetOf (strKind P w) a S n
section
variable{X:Cx}
theorem wm(hc:X.calm=true):iV X (.type "set") (λxs H Q=>∃x,xs=[.str x]/\x.cps.size+1<scanBound/\∀p,H p=none->Q (.ref p) (upd H p (Ly X.prog X.w p (met (gK x) x.cps.size).length))):=by
 intro pins s σ H xs us Q I r h
 obtain⟨x,rfl,hb,q⟩:=h
 obtain⟨u,rfl,t,rfl⟩:=vals1 r
 refine TK.b9 (Nat.le_refl s.toks) (xN (I.ok.hd hc) hb λh' tk hS kk hup=>?_)
 have hn:H s.heap.objs.size=none:=I.fresh
 have k:∀b o,s.heap.get? b=some o->h'.get? b=some o:=λb o e=>kk b o (Heap.lt_size e) e
 refine⟨.ref s.heap.objs.size,_,I.laid (t':=tk) k (Nat.le_refl _) ?_,rfl,q _ hn⟩
 refine⟨⟨_,hS⟩,?_,λh1 h2 p e=>?_⟩
 ·obtain⟨o,_,_,_,ho,_⟩:=hS
  exact⟨o,ho⟩
 ·obtain⟨S,o,es,ep,t,ho,rest⟩:=p
  exact⟨S,o,es,ep,t,e o ho,rest⟩
theorem oS:iV X (.builtin "len") (λxs H Q=>∃p n,xs=[.ref p]/\H p=some (Ly X.prog X.w p n)/\Q (.int (n:Nat)) H):=by
 intro pins s σ H xs us Q I r h
 obtain⟨p,n,rfl,hp,q⟩:=h
 obtain⟨u,rfl,ru⟩:=vals1 r
 cases ru
 obtain⟨⟨S,o,es,ep,t,ho,hex,hd,_,_,hz,hf,hn⟩,_⟩:=I.hok p _ hp
 subst hn
 have:es.size<4096:=hz
 exact call_len_set ho hex hd hf (by omega) ⟨.int es.size,H,I.tok _,⟨_,rfl⟩,q⟩
def Bg(i:Int):Prop:=i.natAbs<2 ^ 9000
theorem Bg.log{i:Int}(h:Bg i):i.natAbs.log2<9000:=by
 rcases Nat.eq_zero_or_pos i.natAbs with h0|hp
 ·rw[h0];decide
 ·exact(Nat.log2_lt (by omega)).mpr h
theorem Bg.bits{i:Int}(h:Bg i):Builtin.Int.intBits i<=2 ^ 20:=by
 have:=h.log
 unfold Builtin.Int.intBits
 split
 ·exact Nat.zero_le _
 ·exact Nat.le_trans (show i.natAbs.log2+1<=9000 by omega) (by decide)
theorem xq:mL X (binaryOp .Mult) (rI (λi j=>Bg i/\Bg j) λi j=>.int (i*j)):=KW λ_ _ _ _ _ _ _ hc q=>mul_int q (IntMulOk.of_bits hc.1.bits hc.2.bits)
theorem jH:mL X (binaryOp .FloorDiv) (rI (λ_ j=>0<j/\Bg j) λi j=>.int (i / j)):=KW λi j _ _ _ _ _ hc q=>by
 have h1:(0:Int)<j:=hc.1
 exact floordiv_int (by omega) (by rw[Int.fdiv_eq_ediv_of_nonneg i (by omega)];exact q) (.inl (PyProof.noPylong_of_log2 hc.2.log))
end
end L2
namespace L2
open PySem PySem.Spec PyProof.Rows
def Oi(K:PySem.W.Frag)(c:Cp):It :=
 ⟨λi H=>∃xs x,c.at K H xs/\xs[i]? =some x,λi H x H'=>H'=H/\∀xs,c.at K H xs->xs[i]? =some x,λi H=>∃xs,c.at K H xs/\xs.length<=i⟩
theorem Turn.conv{P:Program}{w:World}{K:PySem.W.Frag}{tg:Expr}{J J':It}{fp:List Addr}{it:Addr}{tn:Nat->Heap->Prop}(T:Turn P w K tg J fp it tn)
  (hg:∀i H,J'.go i H->J.go i H) (hy:∀i H x H',J.Bl i H x H'->J'.Bl i H x H') (hs:∀i H,J'.stop i H->J.stop i H):Turn P w K tg J' fp it tn where
 mem:=T.mem
 obj:=T.obj
 keep:=T.keep
 item:=λX hP hw hK hc i pins s σ H E I hf st g=>wpAny_mono (T.item X hP hw hK hc i pins s σ H E I hf st (hg i H g)) (λr s1 ⟨u,hr,h⟩=>⟨u,hr,wpAny_mono h (λ_ s2 ⟨x,H',I',r',y,t',n'⟩=>⟨x,H',I',r',hy i H x H' y,t',n'⟩) λ_ _ z=>z⟩) λ_ _ z=>z
 done:=λX hP hw hK hc i pins s σ H E I hf st g=>T.done X hP hw hK hc i pins s σ H E I hf st (hs i H g)
 self:=T.self
theorem signs_length(x:Str):(fj x).length=x.cps.size:=by simp[fj]
theorem signs_at{x:Str}{i k:Nat}(h:x.cps[i]? =some k):(fj x)[i]? =some (.str ⟨#[k]⟩):=by
 unfold fj
 rw[List.getElem?_map]
 have e:x.cps.toList[i]? =some k:=by simpa using h
 rw[e]
 rfl
section
variable{X:Cx}{tg:Expr}
def Vq(K:PySem.W.Frag)(tl:TE):TI:=λσ H R=>tl σ H λv H1=>∃c xs,v=Cp.val c/\c.at K H1 xs/\R (Oi K c) H1
theorem tT{l:Expr}{tl:TE}(hl:PE X l tl):PI X tg l (Vq X.K tl):=by
 intro pins s σ H R I h
 refine fK (hl pins s σ H _ I h) λv s1 ⟨y,H1,I1,r1,q1⟩=>?_
 obtain⟨c,xs,e,hq,q⟩:=q1
 subst e
 have Sn:∀b∈[s1.heap.objs.size],nM X pins H1 b:=λb hb=>by
  have e:b=s1.heap.objs.size:=by simpa using hb
  subst e
  exact I1.zG (Nat.le_refl _) (I1.hok.fresh (Nat.le_refl _))
 cases c with
 |lst a =>
  cases (show v=Value.ref a from r1)
  obtain⟨its,rv,p,hz⟩:=I1.list hq
  refine wpAny_pyIter_list p.isList ?_
  exact⟨s1.heap.objs.size,[s1.heap.objs.size],_,_,H1,rfl,I1.kept (t':=s1.toks) λb o e=>Heap.get?_push_of_some _ e,vG a _,⟨_,Heap.get?_push_size _ rfl,rfl,rfl⟩,Sn,q⟩
 |tup a =>
  cases (show v=Value.ref a from r1)
  obtain⟨its,rv,p,hz⟩:=I1.tuple hq
  refine wpAny_pyIter_tuple (show s1.heap.IsTuple a its.toArray from p) ?_
  exact⟨s1.heap.objs.size,[s1.heap.objs.size],_,_,H1,rfl,I1.kept (t':=s1.toks) λb o e=>Heap.get?_push_of_some _ e,Ae a _,⟨_,Heap.get?_push_size _ rfl,rfl,rfl⟩,Sn,q⟩
 |txt x =>
  obtain⟨t,rfl⟩:=(show ∃t,v=Value.str x t from r1)
  refine wpAny_pyIter_strU ?_
  refine⟨s1.heap.objs.size,[s1.heap.objs.size],_,_,H1,rfl,I1.kept (t':=s1.toks) λb o e=>Heap.get?_push_of_some _ e,(yz x t _).conv ?_ ?_ ?_,⟨_,Heap.get?_push_size _ rfl,rfl,rfl⟩,Sn,q⟩
  ·rintro i H ⟨xs,y,hx,e⟩
   rw[show xs=fj x from hx]at e
   have:=(List.getElem?_eq_some_iff.mp e).1
   rw[signs_length]at this
   exact this
  ·rintro i H y H' ⟨rfl,k,e,rfl⟩
   refine⟨rfl,λxs hx=>?_⟩
   rw[show xs=fj x from hx]
   exact signs_at e
  ·rintro i H ⟨xs,hx,e⟩
   rw[show xs=fj x from hx,signs_length]at e
   exact e
theorem Ft{K:PySem.W.Frag}{c:Cp}{xs:List V}{g:TG}{tb:TS}{D:Ends}{σ:St}{H:Hp}(Pv:Nat->St->Hp->Prop)(h0:Pv 0 σ H)(hl:∀i σ H,i<=xs.length->Pv i σ H->c.at K H xs)
  (hs:∀i x σ H,xs[i]? =some x->Pv i σ H->g x σ H λσ2 H2=>tb { D with nx:=Pv (i+1),ct:=Pv (i+1),bk:=D.nx } σ2 H2) (hd:∀ σ H,Pv xs.length σ H->D.nx σ H) :
  ∃W:Nat->Nat->St->Hp->Prop,(∃m,W 0 m σ H)/\∀i m σ H,W i m σ H →
   ((Oi K c).stop i H/\D.nx σ H)\/((Oi K c).go i H/\∃N:St->Hp->Prop,(∀ σ' H',N σ' H'->∃m',m'<m/\W (i+1) m' σ' H')/\∀x H',(Oi K c).Bl i H x H'->g x σ H' λσ2 H2=>tb { D with nx:=N,ct:=N,bk:=D.nx } σ2 H2):=by
 refine⟨λi m σ H=>m=xs.length-i/\i<=xs.length/\Pv i σ H,⟨xs.length,by simp,Nat.zero_le _,h0⟩,?_⟩
 rintro i m σ H ⟨rfl,hi,p⟩
 have q:=hl i σ H hi p
 by_cases hlt:i<xs.length
 ·refine .inr ⟨⟨xs,xs[i],q,by simp[hlt]⟩,Pv (i+1),λσ' H' p'=>⟨xs.length-(i+1),by omega,rfl,hlt,p'⟩,λx H' y=>?_⟩
  obtain⟨e,y⟩:=y
  subst e
  exact hs i x σ _ (y xs q) p
 ·have e:i=xs.length:=by omega
  subst e
  exact .inl ⟨⟨xs,q,Nat.le_refl _⟩,hd σ H p⟩
end
end L2
namespace iX
def lo(a b:Int):Int×Int:=(a / (Int.gcd a b:Int),b / (Int.gcd a b:Int))
theorem jB(a:Int){b:Int}(hb:0<b):0<(Int.gcd a b:Int):=by
 have:0<Int.gcd a b:=Int.gcd_pos_of_ne_zero_right a (by omega)
 omega
theorem xH(a:Int){b:Int}(hb:0<b):(Int.gcd a b:Int)<=b:=Int.le_of_dvd hb (Int.gcd_dvd_right ..)
theorem uf(a:Int){b:Int}(hb:0<b):0<(lo a b).2 :=
 Int.ediv_pos_of_pos_of_dvd hb (Int.le_of_lt (jB a hb)) (Int.gcd_dvd_right ..)
theorem lo_le(a:Int){b:Int}(hb:0<b):(lo a b).2<=b:=by
 have h:=jB a hb
 exact Int.ediv_le_self _ (Int.le_of_lt hb)
theorem EY(a:Int){b:Int}(hb:0<b):Int.gcd (lo a b).1 (lo a b).2=1 :=
 Int.gcd_ediv_gcd_ediv_gcd (Int.gcd_pos_of_ne_zero_right a (by omega))
theorem AV(a b:Int):(lo a b).1*(Int.gcd a b:Int)=a:=Int.ediv_mul_cancel (Int.gcd_dvd_left ..)
theorem AU(a b:Int):(lo a b).2*(Int.gcd a b:Int)=b:=Int.ediv_mul_cancel (Int.gcd_dvd_right ..)
theorem EZ(a b:Int):(lo a b).1*b=a*(lo a b).2:=by
 have h1:=AV a b
 have h2:=AU a b
 generalize (lo a b).1=x at *
 generalize (lo a b).2=y at *
 generalize (Int.gcd a b:Int)=g at *
 rw[←h1,←h2,Int.mul_assoc,Int.mul_comm y g]
theorem zB(a b:Int):Int.gcd b (a % b)=Int.gcd a b:=by
 have e:a=a % b+b*(a / b):=(Int.emod_add_mul_ediv a b).symm
 have h:Int.gcd (a % b+b*(a / b)) b=Int.gcd (a % b) b:=Int.gcd_add_mul_left_left ..
 rw[←e]at h
 rw[h,Int.gcd_comm]
theorem Hf(a:Int):(if a<0 then -a else a)=(Int.gcd a 0:Int):=by
 rw[Int.gcd_zero_right]
 split<;>omega
end iX
namespace GP
open PySem L2 iX
abbrev aS:=Int×Int
def aZ(f:aS):aS:=lo f.1 f.2
theorem ai.upd{H:Hp}{q:Addr}{o:HO}(h:H q=none):ai H (L2.upd H q o):=λb u e=>by rw[az (bz e h)];exact e
theorem ai.at{H H2:Hp}{t:Addr}{o:HO}(e:ai H H2)(h:H t=none):ai H (L2.upd H2 t o):=λb u q=>by rw[az (bz q h)];exact e b u q
theorem ai.tup{K:PySem.W.Frag}{H H':Hp}{a:Addr}{xs:List V}(e:ai H H')(h:cL K H a xs):cL K H' a xs:=by
 rcases h with(h|⟨o,h⟩)|h
 ·exact .inl (.inl (e _ _ h))
 ·exact .inl (.inr ⟨o,e _ _ h⟩)
 ·exact .inr h
theorem ai.cp{K:PySem.W.Frag}{H H':Hp}{c:Cp}{xs:List V}(e:ai H H')(h:c.at K H xs):c.at K H' xs:=by
 cases c with
 |lst a=>exact ai.seq e h
 |tup a=>exact ai.tup e h
 |txt x=>exact h
def eB(K:PySem.W.Frag)(H:Hp)(p:Addr)(f:aS):Prop:=cL K H p [.int f.1,.int f.2]
theorem eB.same{K:PySem.W.Frag}{H H':Hp}{p:Addr}{f:aS}(e:ai H H')(h:eB K H p f):eB K H' p f:=ai.tup e h
def gH(K:PySem.W.Frag)(H:Hp)(c:Cp)(fs:List aS):Prop:=∃ps:List Addr,c.at K H (ps.map V.ref)/\Paired (eB K H) ps fs
theorem gH.same{K:PySem.W.Frag}{H H':Hp}{c:Cp}{fs:List aS}(e:ai H H')(h:gH K H c fs):gH K H' c fs:=by
 obtain⟨ps,a,b⟩:=h
 exact⟨ps,ai.cp e a,Paired.iW b λ_ _ z=>z.same e⟩
def Iv(K:PySem.W.Frag)(H:Hp)(c:Cp)(rows:List (List aS)):Prop:=∃cs:List Cp,c.at K H (cs.map Cp.val)/\Paired (gH K H) cs rows
theorem Paired.at{α β:Type}{F:α->β->Prop}:∀{l₁:List α} {l₂:List β} {i:Nat} {x:α},Paired F l₁ l₂->l₁[i]? =some x->∃y,l₂[i]? =some y/\F x y
 |_,_,i,_,.nil,e=>by simp at e
 |_,_,0,_,.cons r _,e=>by simp at e;subst e;exact⟨_,rfl,r⟩
 |_,_,i+1,x,.cons _ t,e=>by
  obtain⟨y,h1,h2⟩:=Paired.at (i:=i) (x:=x) t (by simpa using e)
  exact⟨y,by simpa using h1,h2⟩
theorem Paired.len{α β:Type}{F:α->β->Prop}{l₁:List α}{l₂:List β}(h:Paired F l₁ l₂):l₁.length=l₂.length:=Paired.length h
theorem Paired.snoc{α β:Type}{F:α->β->Prop}{x:α}{y:β}:∀{l₁:List α} {l₂:List β},Paired F l₁ l₂->F x y->Paired F (l₁++[x]) (l₂++[y])
 |_,_,.nil,h=>.cons h .nil
 |_,_,.cons r t,h=>.cons r (Paired.snoc t h)
theorem take_snoc{α:Type}{l:List α}{i:Nat}{x:α}(h:l[i]? =some x):l.take (i+1)=l.take i++[x]:=by
 rw[List.take_add_one,h];rfl
theorem oM{α β:Type}{l:List α}{f:α->β}{i:Nat}{x:α}(h:l[i]? =some x):(l.map f).take (i+1)=(l.map f).take i++[f x]:=take_snoc (by rw[List.getElem?_map,h];rfl)
theorem pF{i j:Int}{A B:Prop}(h1:i≠j->A)(h2:i=j->B):if(!decide (V.int i=V.int j))=true then A else B:=by
 by_cases h:i=j
 ·rw[nY,if_neg (by simp[h])];exact h2 h
 ·rw[nY,if_pos (by simp[h])];exact h1 h
theorem jo{i j:Int}{A B:Prop}(h1:i=j->A)(h2:i≠j->B):if(decide (V.int i=V.int j))=true then A else B:=by
 by_cases h:i=j
 ·rw[nY,if_pos (by simp[h])];exact h1 h
 ·rw[nY,if_neg (by simp[h])];exact h2 h
theorem fQ{p:Prop}[Decidable p]{A B:Prop}(h1:p->A)(h2:¬p->B):if(decide p)=true then A else B:=by
 by_cases h:p
 ·rw[if_pos (decide_eq_true h)];exact h1 h
 ·rw[if_neg (by rw[decide_eq_false h];exact Bool.false_ne_true)];exact h2 h
theorem B9{A B:Prop}(h:A):if(!false)=true then A else B:=by
 rw[if_pos (show(!false)=true from rfl)];exact h
theorem jK{A B:Prop}(h:B):if(!true)=true then A else B:=by
 rw[if_neg (by decide)];exact h
structure Dn(K:PySem.W.Frag)(mg:Str->Option Value)(x:Str)(st:Stmt)(ps:List Str)(f:Addr)(fd:FuncData):Prop where
 fn:DT K x x st f fd
 b:Binds K fd ps []
 m:mg x=some (.ref f)
def Ej:Sp:=λvs H Q _=>∃a b:Int,vs=[.int a,.int b]/\0<=b/\Q (.int (Int.gcd a b)) H
def lm(a b:Int):Int:=a / (Int.gcd a b:Int)*b
def Sm(i:Int):Prop:=i.natAbs<2 ^ 200
theorem Sm.bg{i:Int}(h:Sm i):Bg i:=Nat.lt_of_lt_of_le h (Nat.pow_le_pow_right (by decide) (by decide))
theorem Sm.le{a b:Int}(h0:0<=a)(h1:a<=b)(h:Sm b):Sm a:=Nat.lt_of_le_of_lt (by omega) h
def Ei(K:PySem.W.Frag):Sp:=λvs H Q _=>∃(p:Addr) (f:aS),vs=[.ref p]/\eB K H p f/\0<f.2/\Sm f.2 ∧
 ∀q,H q=none->Q (.ref q) (L2.upd H q (.tup [.int (aZ f).1,.int (aZ f).2]))
def DR(f:aS):Prop:=1<=f.2/\Sm f.2
def oY(K:PySem.W.Frag):Sp:=λvs H Q _=>∃(p:Addr) (f:aS),vs=[.ref p]/\eB K H p f/\DR f ∧
 ∀q,H q=none->Q (.ref q) (L2.upd H q (.tup [.int (aZ f).1,.int (aZ f).2]))
def rG(K:PySem.W.Frag):Sp:=λvs H Q _=>∃(c:Cp) (fs:List aS),vs=[c.val]/\gH K H c fs/\(∀f∈fs,DR f)/\fs.length<=1000 ∧
 ∀q H',ai H H'->H q=none->gH K H' (.tup q) (fs.map aZ)->Q (.ref q) H'
def gr(o m:Int)(rows:List (List aS)):Int:=(rows.flatten.map (·.2)).foldl lm (lm o m)
def eN(fo fm:aS)(rows:List (List aS)):List Int:=fo.2::fm.2::rows.flatten.map (·.2)
def yI(K:PySem.W.Frag):Sp:=λvs H Q _=>∃(P o m:Addr) (rows:List (List aS)) (fo fm:aS),vs=[.ref P,.ref o,.ref m]/\Iv K H (.tup P) rows/\eB K H o fo/\eB K H m fm ∧
 rows.length<=12/\(∀r∈rows,r.length<=12)/\∀l H',ai H H'->H l=none->H' l=some (.lst ((eN fo fm rows).map V.int))->Q (.ref l) H'
def nX(p:List Int×Int)(b:Int):List Int×Int:=if b / (Int.gcd p.2 b:Int)>1 then(p.1++[b / (Int.gcd p.2 b:Int)],p.2*(b / (Int.gcd p.2 b:Int)))else p
def lH(ns:List Int):List Int×Int:=ns.foldl nX ([],1)
def ki(n:Int):Prop:=0<n/\Sm n
def vK(K:PySem.W.Frag):Sp:=λvs H Q _=>∃(l:Addr) (ns:List Int),vs=[.ref l]/\bX K H l (ns.map V.int)/\ns.length<=1000/\(∀n∈ns,ki n)/\(∀i,Bg ((ns.take i).foldl lm 1)) ∧
 ∀q H',ai H H'->H q=none->H' q=some (.lst ((lH ns).1.map V.int))->Q (.ref q) H'
def jG(fs:List Int):Int:=fs.foldl (·*·) 1
def Eg(K:PySem.W.Frag):Sp:=λvs H Q _=>∃(l:Addr) (fs:List Int),vs=[.ref l]/\bX K H l (fs.map V.int)/\(∀n∈fs,ki n)/\(∀i,Bg (jG (fs.take i)))/\Q (.int (jG fs)) H
def tF(K:PySem.W.Frag):Sp:=λvs H Q _=>∃(p:Addr) (f:aS) (u:Int),vs=[.ref p,.int u]/\eB K H p f/\DR f/\Bg f.1/\Bg (u / f.2)/\Q (.int (f.1*(u / f.2))) H
theorem JI{b:Int}:lm 1 b=b:=by
 unfold lm
 rw[Int.gcd_one_left]
 simp
theorem JJ{a b:Int}:lm a b=a*(b / (Int.gcd a b:Int)):=by
 unfold lm
 rw[←Int.mul_ediv_assoc' b (Int.gcd_dvd_left a b),Int.mul_ediv_assoc a (Int.gcd_dvd_right a b)]
structure z6(p:List Int×Int)(ns:List Int):Prop where
 small:∀f∈p.1,ki f
 prod:jG p.1=p.2
 unit:p.2=ns.foldl lm 1
 pos:0<p.2
 len:p.1.length<=ns.length
theorem tS(fs:List Int)(f:Int):jG (fs++[f])=jG fs*f:=by
 unfold jG
 rw[List.foldl_append]
 rfl
theorem Co{u b:Int}(hb:ki b):0<b / (Int.gcd u b:Int)/\b / (Int.gcd u b:Int)<=b:=by
 have g1:=jB u hb.1
 exact⟨Int.ediv_pos_of_pos_of_dvd hb.1 (Int.le_of_lt g1) (Int.gcd_dvd_right u b),Int.ediv_le_self _ (Int.le_of_lt hb.1)⟩
theorem z6.step{p:List Int×Int}{ns:List Int}{b:Int}(h:z6 p ns)(hb:ki b):z6 (nX p b) (ns++[b]):=by
 obtain⟨d1,d2⟩:=Co (u:=p.2) hb
 have e:(ns++[b]).foldl lm 1=p.2*(b / (Int.gcd p.2 b:Int)):=by
  rw[List.foldl_append,←h.unit]
  exact JJ
 unfold nX
 split
 ·next h1 =>
  refine⟨λf hf=>?_,?_,e.symm,Int.mul_pos h.pos d1,?_⟩
  ·rcases List.mem_append.mp hf with hf|hf
   ·exact h.small f hf
   ·rw[List.mem_singleton.mp hf]
    exact⟨d1,Sm.le (Int.le_of_lt d1) d2 hb.2⟩
  ·rw[tS,h.prod]
  ·rw[List.length_append,List.length_append]
   exact Nat.add_le_add_right h.len 1
 ·next h1 =>
  have e1:b / (Int.gcd p.2 b:Int)=1:=by omega
  refine⟨h.small,h.prod,?_,h.pos,?_⟩
  ·rw[e,e1,Int.mul_one]
  ·rw[List.length_append]
   exact Nat.le_trans h.len (Nat.le_add_right _ _)
theorem CS{fs:List Int}(h:∀f∈fs,ki f):∀i,0<jG (fs.take i)/\jG (fs.take i)<=jG fs:=by
 have pos:∀(l:List Int),(∀f∈l,0<f)->∀u:Int,0<u->u<=l.foldl (·*·) u:=λl=>by
  induction l with
  |nil=>intro _ u _;exact Int.le_refl _
  |cons a l ih =>
   intro h u hu
   have ha:=h a List.mem_cons_self
   have h1:u*1<=u*a:=Int.mul_le_mul_of_nonneg_left (by omega) (Int.le_of_lt hu)
   have h2:=ih (λf hf=>h f (List.mem_cons_of_mem _ hf)) (u*a) (Int.mul_pos hu ha)
   show u<=l.foldl (·*·) (u*a)
   omega
 intro i
 have h1:0<jG (fs.take i):=by
  have:=pos (fs.take i) (λf hf=>(h f (List.mem_of_mem_take hf)).1) 1 (by decide)
  show 0<(fs.take i).foldl (·*·) 1
  omega
 refine⟨h1,?_⟩
 have e:jG fs=(fs.drop i).foldl (·*·) (jG (fs.take i)):=by
  unfold jG
  rw[←List.foldl_append,List.take_append_drop]
 rw[e]
 exact pos _ (λf hf=>(h f (List.mem_of_mem_drop hf)).1) _ h1
theorem uF(ns:List Int)(b:Int):lH (ns++[b])=nX (lH ns) b:=by
 unfold lH
 rw[List.foldl_append]
 rfl
theorem qX{ns:List Int}(h:∀n∈ns,ki n):∀i,i<=ns.length->z6 (lH (ns.take i)) (ns.take i)
 | 0,_=>by
  rw[List.take_zero]
  exact⟨λf hf=>(by cases hf),rfl,rfl,(by decide),Nat.le_refl _⟩
 |i+1,hi=>by
  have e:=List.getElem?_eq_getElem (l:=ns) (i:=i) hi
  rw[take_snoc e,uF]
  exact(qX h i (Nat.le_of_lt hi)).step (h _ (List.getElem_mem hi))
theorem Hh{ns:List Int}(h:∀n∈ns,ki n):z6 (lH ns) ns:=by
 have z:=qX h ns.length (Nat.le_refl _)
 rw[List.take_length]at z
 exact z
theorem rE(fo fm:aS)(rows:List (List aS)):(eN fo fm rows).foldl lm 1=gr fo.2 fm.2 rows:=by
 unfold eN gr
 rw[List.foldl_cons,List.foldl_cons,JI]
end GP
namespace GP
open PySem L2 iX
structure Dm(K:PySem.W.Frag)(x qual:Str)(st:Stmt)(ps:List Str)(f:Addr)(fd:FuncData):Prop where
 fn:DT K x qual st f fd
 b:Binds K fd ps []
def Dat(H H':Hp):Prop:=∀b u,(∀C dx fs,u≠HO.ins C dx fs)->H b=some u->H' b=some u
theorem Dat.of{H H':Hp}(e:ai H H'):Dat H H':=λb u _ h=>e b u h
theorem Dat.trans{H H' DS:Hp}(e:Dat H H')(f:Dat H' DS):Dat H DS:=λb u n h=>f b u n (e b u n h)
theorem Dat.set{H:Hp}{x C dx:Addr}{fs fs':List (Str×V)}(h:H x=some (.ins C dx fs)):Dat H (L2.upd H x (.ins C dx fs')):=λb u n e=>by
 rw[az (λz=>by subst z;rw[h]at e;cases e;exact n _ _ _ rfl)];exact e
theorem Dat.tup{K:PySem.W.Frag}{H H':Hp}{a:Addr}{xs:List V}(e:Dat H H')(h:cL K H a xs):cL K H' a xs:=by
 rcases h with(h|⟨o,h⟩)|h
 ·exact .inl (.inl (e _ _ (λ_ _ _ z=>by cases z) h))
 ·exact .inl (.inr ⟨o,e _ _ (λ_ _ _ z=>by cases z) h⟩)
 ·exact .inr h
theorem Dat.lst{K:PySem.W.Frag}{H H':Hp}{a:Addr}{xs:List V}(e:Dat H H')(h:bX K H a xs):bX K H' a xs:=by
 rcases h with(h|⟨o,h⟩)|h
 ·exact .inl (.inl (e _ _ (λ_ _ _ z=>by cases z) h))
 ·exact .inl (.inr ⟨o,e _ _ (λ_ _ _ z=>by cases z) h⟩)
 ·exact .inr h
theorem Dat.cp{K:PySem.W.Frag}{H H':Hp}{c:Cp}{xs:List V}(e:Dat H H')(h:c.at K H xs):c.at K H' xs:=by
 cases c with
 |lst a=>exact Dat.lst e h
 |tup a=>exact Dat.tup e h
 |txt x=>exact h
theorem eB.dat{K:PySem.W.Frag}{H H':Hp}{p:Addr}{f:aS}(e:Dat H H')(h:eB K H p f):eB K H' p f:=Dat.tup e h
theorem gH.dat{K:PySem.W.Frag}{H H':Hp}{c:Cp}{fs:List aS}(e:Dat H H')(h:gH K H c fs):gH K H' c fs:=by
 obtain⟨ps,a,b⟩:=h
 exact⟨ps,Dat.cp e a,Paired.iW b λ_ _ z=>z.dat e⟩
def om(K:PySem.W.Frag)(H:Hp)(P:Addr)(rows:List (List aS)):Prop:=∃qs:List Addr,cL K H P (qs.map V.ref)/\Paired (λq r=>gH K H (.tup q) r) qs rows
theorem om.dat{K:PySem.W.Frag}{H H':Hp}{P:Addr}{rows:List (List aS)}(e:Dat H H')(h:om K H P rows):om K H' P rows:=by
 obtain⟨cs,a,b⟩:=h
 exact⟨cs,Dat.tup e a,Paired.iW b λ_ _ z=>z.dat e⟩
theorem o8{α β γ:Type}{F:γ->β->Prop}{g:α->γ}:∀{l₁:List α} {l₂:List β},Paired (λa b=>F (g a) b) l₁ l₂->Paired F (l₁.map g) l₂
 |_,_,.nil=>.nil
 |_,_,.cons r t=>.cons r (o8 t)
theorem om.Q5{K:PySem.W.Frag}{H:Hp}{P:Addr}{rows:List (List aS)}(h:om K H P rows):Iv K H (.tup P) rows:=by
 obtain⟨qs,a,b⟩:=h
 refine⟨qs.map Cp.tup,?_,o8 b⟩
 rw[List.map_map]
 exact a
theorem FJ{K:PySem.W.Frag}{H:Hp}{c:Cp}{xs:List V}(h:c.at K H xs)(hx:∀x,c≠ .txt x):Hu K c.val H xs.length:=by
 cases c with
 |lst a=>exact .inl ⟨_,h,rfl⟩
 |tup a=>exact .inr ⟨_,h,rfl⟩
 |txt x=>exact absurd rfl (hx x)
theorem gH.len{K:PySem.W.Frag}{H:Hp}{c:Cp}{fs:List aS}(h:gH K H c fs)(hx:∀x,c≠ .txt x):Hu K c.val H fs.length:=by
 obtain⟨ps,a,b⟩:=h
 have z:=FJ a hx
 rw[List.length_map,Paired.len b]at z
 exact z
def fR(n:Nat):Bool:=(decide ((32:Int)<=(n:Int))&&decide ((n:Int)<=126))&& !NN (.int n) [.int 34,.int 37,.int 45]
def ig(x:Str):Prop:=0<x.cps.size/\x.cps.size<=100/\(∀c∈x.cps.toList,fR c=true)/\x.cps.toList.Nodup
theorem mS{x:Str}(h:x.cps.toList.Nodup){i j a b:Nat}(hi:x.cps[i]? =some a)(hj:x.cps[j]? =some b)(hij:i≠j):a≠b:=by
 intro z
 subst z
 rw[←Array.getElem?_toList]at hi hj
 exact hij ((List.getElem?_inj (List.getElem?_eq_some_iff.mp hi).1 h).mp (hi.trans hj.symm))
theorem BX(val:Nat->Str)(k:Str):∀i,(met val i).any (·==k)=true->∃j,j<i/\val j=k
 | 0,h=>by rw[ua]at h;cases h
 |i+1,h=>by
  rw[jJ,lW,Bool.or_eq_true]at h
  rcases h with h|h
  ·obtain⟨j,h1,h2⟩:=BX val k i h
   exact⟨j,by omega,h2⟩
  ·exact⟨i,by omega,(of_decide_eq_true h).symm⟩
theorem zk{val:Nat->Str}{n:Nat}(h:∀i j,i<n->j<n->i≠j->val i≠val j):∀i,i<=n->(met val i).length=i
 | 0,_=>by rw[ua];rfl
 |i+1,hi=>by
  rw[jJ,iF]
  have e:¬((met val i).any (·==val i)=true):=λz=>by
   obtain⟨j,h1,h2⟩:=BX val _ i z
   exact h j i (by omega) (by omega) (by omega) h2
  rw[if_neg e,zk h i (by omega)]
theorem vQ{x:Str}(h:x.cps.toList.Nodup):(met (gK x) x.cps.size).length=x.cps.size:=by
 refine zk (n:=x.cps.size) (λi j hi hj hij z=>?_) _ (Nat.le_refl _)
 unfold gK at z
 have e1:x.cps[i]? =some (x.cps.getD i 0):=by simp[hi]
 have e2:x.cps[j]? =some (x.cps.getD j 0):=by simp[hj]
 refine mS h e1 e2 hij ?_
 have z2: #[x.cps.getD i 0]= #[x.cps.getD j 0]:=congrArg Str.cps z
 simpa using z2
def yK:Sp:=λvs H Q _=>∃c:Nat,vs=[.str ⟨#[c]⟩]/\Q (.bl (fR c)) H
def oZ:Sp:=λvs H Q _=>∃x:Str,vs=[.str x]/\x.cps.size<=1000/\∀H',ai H H'->Q (.bl (x.cps.toList.all fR)) H'
def pR:Sp:=λvs H Q _=>∃x:Str,vs=[.str x]/\ig x/\∀H',ai H H'->Q .gx H'
def Iu(c:Cp):Prop:=∀x,c≠ .txt x
def Bd(K:PySem.W.Frag)(H:Hp)(c:Cp)(rows:List (List aS)):Prop:=Iu c/\∃cs:List Cp,(∀d∈cs,Iu d)/\c.at K H (cs.map Cp.val)/\Paired (gH K H) cs rows
theorem Bd.dat{K:PySem.W.Frag}{H H':Hp}{c:Cp}{rows:List (List aS)}(e:Dat H H')(h:Bd K H c rows):Bd K H' c rows:=by
 obtain⟨n,cs,m,a,b⟩:=h
 exact⟨n,cs,m,Dat.cp e a,Paired.iW b λ_ _ z=>z.dat e⟩
def Bc(n:Nat)(rows:List (List aS)):Prop:=rows.length=n/\∀r∈rows,r.length=n
def mR(K:PySem.W.Frag):Sp:=λvs H Q _=>∃(x:Str) (c:Cp) (rows:List (List aS)),vs=[.str x,c.val]/\Bd K H c rows/\x.cps.size<=100/\Bc x.cps.size rows/\Q .gx H
def SO(rows:List (List aS))(i j:Nat)(f:aS):Prop:=∃r,rows[i]? =some r/\r[j]? =some f
def keyOf(a b:Nat):List Key:=[.inr ⟨#[a]⟩,.inr ⟨#[b]⟩]
def Be(kvs:List (List Key×V))(x:Str)(rows:List (List aS))(u:Int):Prop :=
 ∀i j a b f,x.cps[i]? =some a->x.cps[j]? =some b->SO rows i j f->mH kvs (keyOf a b)=some (.int (f.1*(u / f.2)))
def Bu(i:Int):Prop:=i.natAbs<=2 ^ 4380
theorem Bu.bg{i:Int}(h:Bu i):Bg i:=Nat.lt_of_le_of_lt h (Nat.pow_lt_pow_right (by decide) (by decide))
def Ng(u:Int)(f:aS):Prop:=DR f/\Sm f.1/\Bu (u / f.2)
def BD(K:PySem.W.Frag):Sp:=λvs H Q _=>∃(x:Str) (P:Addr) (u:Int) (rows:List (List aS)),vs=[.str x,.ref P,.int u]/\om K H P rows/\x.cps.size<=100/\x.cps.toList.Nodup/\Bc x.cps.size rows/\(∀r∈rows,∀f∈r,Ng u f) ∧
 ∀d H' kvs,ai H H'->H d=none->H' d=some (.dT kvs)->Be kvs x rows u->Q (.ref d) H'
def iA(x:Str)(P o m:Addr)(u:Int)(d:Addr×Addr):List (Str×V) :=
 aJ "costs" (.ref d.1) (aJ "unit" (.int u) (aJ "factors" (.ref d.2) (aJ "more" (.ref m) (aJ "opening" (.ref o) (aJ "pairs" (.ref P) (aJ "signs" (.str x) []))))))
theorem zI{x:Str}{P o m:Addr}{u:Int}{d:Addr×Addr}:(iA x P o m u d).lookup ("signs" :Str)=some (.str x):=by
 unfold iA
 rw[ao,if_neg (by decide +kernel),ao,if_neg (by decide +kernel),ao,if_neg (by decide +kernel),ao,if_neg (by decide +kernel),ao,if_neg (by decide +kernel),ao,if_neg (by decide +kernel),ao,if_pos rfl]
theorem zJ{x:Str}{P o m:Addr}{u:Int}{d:Addr×Addr}:(iA x P o m u d).lookup ("pairs" :Str)=some (.ref P):=by
 unfold iA
 rw[ao,if_neg (by decide +kernel),ao,if_neg (by decide +kernel),ao,if_neg (by decide +kernel),ao,if_neg (by decide +kernel),ao,if_neg (by decide +kernel),ao,if_pos rfl]
theorem oR{x:Str}{P o m:Addr}{u:Int}{d:Addr×Addr}:(iA x P o m u d).lookup ("opening" :Str)=some (.ref o):=by
 unfold iA
 rw[ao,if_neg (by decide +kernel),ao,if_neg (by decide +kernel),ao,if_neg (by decide +kernel),ao,if_neg (by decide +kernel),ao,if_pos rfl]
theorem uD{x:Str}{P o m:Addr}{u:Int}{d:Addr×Addr}:(iA x P o m u d).lookup ("more" :Str)=some (.ref m):=by
 unfold iA
 rw[ao,if_neg (by decide +kernel),ao,if_neg (by decide +kernel),ao,if_neg (by decide +kernel),ao,if_pos rfl]
theorem vg{x:Str}{P o m:Addr}{u:Int}{d:Addr×Addr}:(iA x P o m u d).lookup ("factors" :Str)=some (.ref d.2):=by
 unfold iA
 rw[ao,if_neg (by decide +kernel),ao,if_neg (by decide +kernel),ao,if_pos rfl]
theorem uC{x:Str}{P o m:Addr}{u:Int}{d:Addr×Addr}:(iA x P o m u d).lookup ("unit" :Str)=some (.int u):=by
 unfold iA
 rw[ao,if_neg (by decide +kernel),ao,if_pos rfl]
def vh(x:Str)(P o m:Addr)(u:Int)(d:Addr×Addr)(ou mu:Int):List (Str×V) :=
 aJ "more_units" (.int mu) (aJ "opening_units" (.int ou) (iA x P o m u d))
theorem nF {x:Str} {P o m:Addr} {u:Int} {d:Addr×Addr} {ou mu:Int} {f:Str} (h1:¬f= "more_units") (h2:¬f= "opening_units"):(vh x P o m u d ou mu).lookup f=(iA x P o m u d).lookup f:=by
 unfold vh
 rw[ao,if_neg h1,ao,if_neg h2]
theorem uA{x:Str}{P o m:Addr}{u:Int}{d:Addr×Addr}{ou mu:Int}:(vh x P o m u d ou mu).lookup ("signs" :Str)=some (.str x):=(nF (by decide +kernel) (by decide +kernel)).trans zI
theorem uB{x:Str}{P o m:Addr}{u:Int}{d:Addr×Addr}{ou mu:Int}:(vh x P o m u d ou mu).lookup ("pairs" :Str)=some (.ref P):=(nF (by decide +kernel) (by decide +kernel)).trans zJ
theorem qk{x:Str}{P o m:Addr}{u:Int}{d:Addr×Addr}{ou mu:Int}:(vh x P o m u d ou mu).lookup ("opening" :Str)=some (.ref o):=(nF (by decide +kernel) (by decide +kernel)).trans oR
theorem v9{x:Str}{P o m:Addr}{u:Int}{d:Addr×Addr}{ou mu:Int}:(vh x P o m u d ou mu).lookup ("more" :Str)=some (.ref m):=(nF (by decide +kernel) (by decide +kernel)).trans uD
theorem xK{x:Str}{P o m:Addr}{u:Int}{d:Addr×Addr}{ou mu:Int}:(vh x P o m u d ou mu).lookup ("factors" :Str)=some (.ref d.2):=(nF (by decide +kernel) (by decide +kernel)).trans vg
theorem oQ {x:Str} {P o m:Addr} {u:Int} {d:Addr×Addr} {v:V} {f:Str} (h2:¬f= "opening_units"):(aJ "opening_units" v (iA x P o m u d)).lookup f=(iA x P o m u d).lookup f:=by
 rw[ao,if_neg h2]
theorem EU{x:Str}{P o m:Addr}:(aJ "more" (.ref m) (aJ "opening" (.ref o) (aJ "pairs" (.ref P) (aJ "signs" (.str x) []))):List (Str×V)).lookup ("pairs" :Str)=some (.ref P):=by
 rw[ao,if_neg (by decide +kernel),ao,if_neg (by decide +kernel),ao,if_pos rfl]
theorem AN{x:Str}{P o m:Addr}:(aJ "more" (.ref m) (aJ "opening" (.ref o) (aJ "pairs" (.ref P) (aJ "signs" (.str x) []))):List (Str×V)).lookup ("opening" :Str)=some (.ref o):=by
 rw[ao,if_neg (by decide +kernel),ao,if_pos rfl]
theorem GK{x:Str}{P o m:Addr}:(aJ "more" (.ref m) (aJ "opening" (.ref o) (aJ "pairs" (.ref P) (aJ "signs" (.str x) []))):List (Str×V)).lookup ("more" :Str)=some (.ref m):=by
 rw[ao,if_pos rfl]
theorem AO{x:Str}{P o m fl:Addr}:(aJ "factors" (.ref fl) (aJ "more" (.ref m) (aJ "opening" (.ref o) (aJ "pairs" (.ref P) (aJ "signs" (.str x) [])))):List (Str×V)).lookup ("factors" :Str)=some (.ref fl):=by
 rw[ao,if_pos rfl]
theorem ET{x:Str}{P o m fl:Addr}{u:Int}:(aJ "unit" (.int u) (aJ "factors" (.ref fl) (aJ "more" (.ref m) (aJ "opening" (.ref o) (aJ "pairs" (.ref P) (aJ "signs" (.str x) []))))):List (Str×V)).lookup ("signs" :Str)=some (.str x):=by
 rw[ao,if_neg (by decide +kernel),ao,if_neg (by decide +kernel),ao,if_neg (by decide +kernel),ao,if_neg (by decide +kernel),ao,if_neg (by decide +kernel),ao,if_pos rfl]
theorem C6{x:Str}{P o m fl:Addr}{u:Int}:(aJ "unit" (.int u) (aJ "factors" (.ref fl) (aJ "more" (.ref m) (aJ "opening" (.ref o) (aJ "pairs" (.ref P) (aJ "signs" (.str x) []))))):List (Str×V)).lookup ("pairs" :Str)=some (.ref P):=by
 rw[ao,if_neg (by decide +kernel),ao,if_neg (by decide +kernel),ao,if_neg (by decide +kernel),ao,if_neg (by decide +kernel),ao,if_pos rfl]
theorem GJ{x:Str}{P o m fl:Addr}{u:Int}:(aJ "unit" (.int u) (aJ "factors" (.ref fl) (aJ "more" (.ref m) (aJ "opening" (.ref o) (aJ "pairs" (.ref P) (aJ "signs" (.str x) []))))):List (Str×V)).lookup ("unit" :Str)=some (.int u):=by
 rw[ao,if_pos rfl]
theorem aU{f:Str}{v:V}{fs:List (Str×V)}{n:Nat}(h:fs.length<=n):(aJ f v fs).length<=n+1:=by
 have:=nu f v fs
 omega
structure zV(K:PySem.W.Frag)(C:Addr)(H:Hp)(x:Addr)(sg:Str)(rows:List (List aS))(fo fm:aS):Prop where
 sig:ig sg
 n8:Bc sg.cps.size rows
 ok:∀r∈rows,∀f∈r,Ng (gr fo.2 fm.2 rows) f
 pY:Ng (gr fo.2 fm.2 rows) fo
 pq:Ng (gr fo.2 fm.2 rows) fm
 pos:0<gr fo.2 fm.2 rows
 big:Bu (gr fo.2 fm.2 rows)
 ob:∃dx P o m,∃d:Addr×Addr,∃kvs,H x=some (.ins C dx (vh sg P o m (gr fo.2 fm.2 rows) d (fo.1*(gr fo.2 fm.2 rows / fo.2)) (fm.1*(gr fo.2 fm.2 rows / fm.2))))/\om K H P rows/\eB K H o fo/\eB K H m fm/\H d.1=some (.dT kvs)/\Be kvs sg rows (gr fo.2 fm.2 rows) ∧
  ∃fs:List Int,(∀f∈fs,ki f)/\jG fs=gr fo.2 fm.2 rows/\H d.2=some (.lst (fs.map V.int))
theorem zV.same{K:PySem.W.Frag}{C:Addr}{H H':Hp}{x:Addr}{sg:Str}{rows:List (List aS)}{fo fm:aS}(e:ai H H')(h:zV K C H x sg rows fo fm):zV K C H' x sg rows fo fm:=by
 obtain⟨a,b,c,d,f,g,i,dx,P,o,m,dd,kvs,h1,h2,h3,h4,h5,h6,fs,h7,h8,h9⟩:=h
 exact⟨a,b,c,d,f,g,i,dx,P,o,m,dd,kvs,e _ _ h1,h2.dat (Dat.of e),h3.same e,h4.same e,e _ _ h5,h6,fs,h7,h8,e _ _ h9⟩
def KN(H:Hp)(x c:Addr):Prop:=∀C dx fs,H x=some (.ins C dx fs)->fs.lookup ("factors" :Str)≠some (.ref c)
def Nf(f:aS):Prop:=DR f/\Sm f.1
def gU(rows:List (List aS)):List (List aS):=rows.map λr=>r.map aZ
def Ak(K:PySem.W.Frag)(C:Addr):Sp:=λvs H Q _=>∃(x dx o m:Addr) (sg:Str) (c:Cp) (rows:List (List aS)) (fo fm:aS),vs=[.ref x,.str sg,c.val,.ref o,.ref m]/\H x=some (.ins C dx [])/\ig sg/\sg.cps.size<=12 ∧
 Bd K H c rows/\Bc sg.cps.size rows/\(∀r∈rows,∀f∈r,Nf f)/\eB K H o fo/\Nf fo/\eB K H m fm/\Nf fm/\(∀i,Bu (((eN (aZ fo) (aZ fm) (gU rows)).take i).foldl lm 1)) ∧
 ∀H',zV K C H' x sg (gU rows) (aZ fo) (aZ fm)->(∀b u,H b=some u->b≠x->H' b=some u)->(∀c,H c≠none->KN H' x c)->Q .gx H'
end GP
namespace GP
open PySem L2 iX
theorem pC{α β:Type}{l:List α}{g:α->β}{i:Nat}{y:β}(h:(l.map g)[i]? =some y):∃x,l[i]? =some x/\y=g x:=by
 rw[List.getElem?_map]at h
 cases e:l[i]? with
 |none=>rw[e]at h;cases h
 |some x=>rw[e]at h;exact⟨x,rfl,(Option.some.inj h).symm⟩
def ju(kvs:List (List Key×V))(x:Str)(rows:List (List aS))(u:Int)(n m:Nat):Prop :=
 ∀i j a b f,(i<n\/(i=n/\j<m))->x.cps[i]? =some a->x.cps[j]? =some b->SO rows i j f->mH kvs (keyOf a b)=some (.int (f.1*(u / f.2)))
theorem ju.nil(x:Str)(rows:List (List aS))(u:Int):ju [] x rows u 0 0:=λi j a b f h=>by omega
theorem Dh{a b c d:Nat}(h:keyOf a b=keyOf c d):a=c/\b=d:=by
 unfold keyOf at h
 have h1:=(List.cons.inj h).1
 have h2:=(List.cons.inj (List.cons.inj h).2).1
 have e1:(⟨#[a]⟩:Str)=⟨#[c]⟩:=Sum.inr.inj h1
 have e2:(⟨#[b]⟩:Str)=⟨#[d]⟩:=Sum.inr.inj h2
 have z1: #[a]= #[c]:=congrArg Str.cps e1
 have z2: #[b]= #[d]:=congrArg Str.cps e2
 exact⟨by simpa using z1,by simpa using z2⟩
theorem ju.put{kvs:List (List Key×V)}{x:Str}{rows:List (List aS)}{u:Int}{n m a b:Nat}{f:aS}(nd:x.cps.toList.Nodup)(h:ju kvs x rows u n m)(ha:x.cps[n]? =some a)(hb:x.cps[m]? =some b)(hf:SO rows n m f):
  ju (putK kvs (keyOf a b) (.int (f.1*(u / f.2)))) x rows u n (m+1):=by
 intro i j c d g hij hc hd hg
 rw[D3]
 by_cases e:i=n/\j=m
 ·obtain⟨rfl,rfl⟩:=e
  rw[ha]at hc
  rw[hb]at hd
  cases hc
  cases hd
  obtain⟨r,r1,r2⟩:=hf
  obtain⟨r',r3,r4⟩:=hg
  rw[r1]at r3
  cases r3
  rw[r2]at r4
  cases r4
  rw[if_pos rfl]
 ·have hne:¬keyOf c d=keyOf a b:=λz=>by
   obtain⟨z1,z2⟩:=Dh z
   subst z1 z2
   refine e ⟨?_,?_⟩
   ·exact Decidable.byContradiction λq=>mS nd hc ha q rfl
   ·exact Decidable.byContradiction λq=>mS nd hd hb q rfl
  rw[if_neg hne]
  exact h i j c d g (by omega) hc hd hg
theorem ju.row{kvs:List (List Key×V)}{x:Str}{rows:List (List aS)}{u:Int}{n m:Nat}(hm:x.cps.size<=m)(h:ju kvs x rows u n m):ju kvs x rows u (n+1) 0:=by
 intro i j a b f hij ha hb hf
 refine h i j a b f ?_ ha hb hf
 have:j<x.cps.size:=by
  rw[←Array.getElem?_toList]at hb
  have:=(List.getElem?_eq_some_iff.mp hb).1
  simpa using this
 omega
theorem ju.all{kvs:List (List Key×V)}{x:Str}{rows:List (List aS)}{u:Int}{n:Nat}(hn:x.cps.size<=n)(h:ju kvs x rows u n 0):Be kvs x rows u:=by
 intro i j a b f ha hb hf
 refine h i j a b f (.inl ?_) ha hb hf
 have:i<x.cps.size:=by
  rw[←Array.getElem?_toList]at ha
  have:=(List.getElem?_eq_some_iff.mp ha).1
  simpa using this
 omega
theorem E5{a b:Int}(ha:0<a)(hb:0<b):0<lm a b:=by
 have h:=jB a hb
 have:=Int.ediv_pos_of_pos_of_dvd ha (Int.le_of_lt h) (Int.gcd_dvd_left a b)
 exact Int.mul_pos this hb
theorem mj(a g:Int):(a / g).natAbs<=a.natAbs:=Int.natAbs_ediv_le_natAbs a g
theorem JK(a b:Int):(lm a b).natAbs<=a.natAbs*b.natAbs:=by
 unfold lm
 rw[Int.natAbs_mul]
 exact Nat.mul_le_mul_right _ (mj a _)
theorem zH:∀(l:List Int) {u:Int},0<u->(∀b∈l,0<b)->0<l.foldl lm u
 |[],_,h,_=>h
 |b::l,_,h,hb=>zH l (E5 h (hb b List.mem_cons_self)) λc hc=>hb c (List.mem_cons_of_mem _ hc)
theorem uE{n:Nat}:∀{rows:List (List aS)},(∀r∈rows,r.length=n)->rows.flatten.length=rows.length*n
 |[],_=>by simp
 |r::rows,h=>by
  rw[List.flatten_cons,List.length_append,h r List.mem_cons_self,uE λr' hr=>h r' (List.mem_cons_of_mem _ hr),List.length_cons,Nat.succ_mul,Nat.add_comm]
theorem D4{rows:List (List aS)}{fo fm:aS}(ho:DR fo)(hm:DR fm)(h:∀r∈rows,∀f∈r,DR f):0<gr fo.2 fm.2 rows:=by
 refine zH _ (E5 (by have:=ho.1;omega) (by have:=hm.1;omega)) λb hb=>?_
 obtain⟨f,hf,rfl⟩:=List.mem_map.mp hb
 obtain⟨r,hr,hfr⟩:=List.mem_flatten.mp hf
 have:=(h r hr f hfr).1
 omega
theorem Fv(w:Int->Nat):∀(l:List Int) {u:Int},(∀b∈l,b.natAbs<=2 ^ w b)->(l.foldl lm u).natAbs<=u.natAbs*2 ^ (l.map w).sum
 |[],_,_=>by simp
 |b::l,u,h=>by
  have h1:=Fv w l (u:=lm u b) λc hc=>h c (List.mem_cons_of_mem _ hc)
  have h2:=JK u b
  have h3:=h b List.mem_cons_self
  show(l.foldl lm (lm u b)).natAbs<=_
  refine Nat.le_trans h1 ?_
  rw[List.map_cons,List.sum_cons,Nat.pow_add,←Nat.mul_assoc]
  exact Nat.mul_le_mul_right _ (Nat.le_trans h2 (Nat.mul_le_mul_left _ h3))
theorem qT{f:aS}(h:DR f):DR (aZ f):=by
 obtain⟨h1,h2⟩:=h
 have h0:0<f.2:=by omega
 have p:=uf f.1 h0
 have l:=lo_le f.1 h0
 exact⟨by show 1<=(lo f.1 f.2).2;omega,Sm.le (by show 0<=(lo f.1 f.2).2;omega) l h2⟩
theorem GO{f:aS}(h:Sm f.1):Sm (aZ f).1:=Nat.lt_of_le_of_lt (mj _ _) h
theorem Bu.div{u:Int}(h:Bu u)(g:Int):Bu (u / g):=Nat.le_trans (mj _ _) h
theorem xA{n:Nat}{rows:List (List aS)}(h:Bc n rows):Bc n (gU rows):=by
 refine⟨by unfold gU;rw[List.length_map];exact h.1,λr hr=>?_⟩
 obtain⟨r',h',rfl⟩:=List.mem_map.mp hr
 rw[List.length_map]
 exact h.2 r' h'
theorem lX{p:aS->Prop}{rows:List (List aS)}(h:∀r∈rows,∀f∈r,p (aZ f)):∀r∈gU rows,∀f∈r,p f:=by
 intro r hr f hf
 obtain⟨r',h',rfl⟩:=List.mem_map.mp hr
 obtain⟨f',hf',rfl⟩:=List.mem_map.mp hf
 exact h r' h' f' hf'
end GP
namespace GP
open PySem L2 iX
theorem cL.off{K:PySem.W.Frag}{H:Hp}{l a:Addr}{ys xs:List V}{o:HO}(hl:H l=some (.lst ys))(h:cL K H a xs):cL K (L2.upd H l o) a xs:=by
 rcases h with(h|⟨u,h⟩)|h
 ·exact .inl (.inl (by rw[az (t8 h hl (by intro z;cases z))];exact h))
 ·exact .inl (.inr ⟨u,by rw[az (t8 h hl (by intro z;cases z))];exact h⟩)
 ·exact .inr h
theorem gH.off{K:PySem.W.Frag}{H:Hp}{l q:Addr}{ys:List V}{fs:List aS}{o:HO}(hl:H l=some (.lst ys))(h:gH K H (.tup q) fs):gH K (L2.upd H l o) (.tup q) fs:=by
 obtain⟨ps,a,b⟩:=h
 exact⟨ps,cL.off hl a,Paired.iW b λ_ _ z=>cL.off hl z⟩
def Off(x:Addr)(H H':Hp):Prop:=∀b u,H b=some u->b≠x->H' b=some u
theorem Off.of{x:Addr}{H H':Hp}(e:ai H H'):Off x H H':=λb u h _=>e b u h
theorem Off.trans{x:Addr}{H H' DS:Hp}(e:Off x H H')(f:Off x H' DS):Off x H DS:=λb u h n=>f b u (e b u h n) n
theorem Off.set{x:Addr}{H:Hp}{o:HO}:Off x H (L2.upd H x o):=λb u h n=>by rw[az n];exact h
theorem Off.dat{x C dx:Addr}{fs:List (Str×V)}{H H':Hp}(hx:H x=some (.ins C dx fs))(e:Off x H H'):Dat H H':=λb u n h=>e b u h λz=>by
 subst z
 rw[hx]at h
 cases h
 exact n _ _ _ rfl
theorem U8{a:Str}{x:V}:(aJ a x []).length<1000:=Nat.lt_of_le_of_lt (aU (Nat.le_refl 0)) (by decide)
theorem U7{a b:Str}{x y:V}:(aJ a x (aJ b y [])).length<1000:=Nat.lt_of_le_of_lt (aU (aU (Nat.le_refl 0))) (by decide)
theorem U6{a b c:Str}{x y z:V}:(aJ a x (aJ b y (aJ c z []))).length<1000:=Nat.lt_of_le_of_lt (aU (aU (aU (Nat.le_refl 0)))) (by decide)
theorem U5{a b c d:Str}{x y z w:V}:(aJ a x (aJ b y (aJ c z (aJ d w [])))).length<1000:=Nat.lt_of_le_of_lt (aU (aU (aU (aU (Nat.le_refl 0))))) (by decide)
theorem U4{a b c d e:Str}{x y z w v:V}:(aJ a x (aJ b y (aJ c z (aJ d w (aJ e v []))))).length<1000:=Nat.lt_of_le_of_lt (aU (aU (aU (aU (aU (Nat.le_refl 0)))))) (by decide)
theorem U3{a b c d e g:Str}{x y z w v t:V}:(aJ a x (aJ b y (aJ c z (aJ d w (aJ e v (aJ g t [])))))).length<1000:=Nat.lt_of_le_of_lt (aU (aU (aU (aU (aU (aU (Nat.le_refl 0))))))) (by decide)
theorem U1{x:Str}{P o m:Addr}{u:Int}{d:Addr×Addr}:(iA x P o m u d).length<1000:=Nat.lt_of_le_of_lt (aU (aU (aU (aU (aU (aU (aU (Nat.le_refl 0)))))))) (by decide)
theorem U0{x:Str}{P o m:Addr}{u:Int}{d:Addr×Addr}{a:Str}{v:V}:(aJ a v (iA x P o m u d)).length<1000:=Nat.lt_of_le_of_lt (aU (aU (aU (aU (aU (aU (aU (aU (Nat.le_refl 0))))))))) (by decide)
end GP
namespace GP
open PySem L2 iX
theorem Ct{a b c:Int}(h:Int.gcd a b=1)(d:a∣b*c):a∣c:=by
 have d':a.natAbs∣b.natAbs*c.natAbs:=by rw[←Int.natAbs_mul];exact Int.natAbs_dvd_natAbs.mpr d
 have h':Nat.Coprime a.natAbs b.natAbs:=h
 exact Int.natAbs_dvd_natAbs.mp (h'.dvd_of_dvd_mul_left d')
theorem EX{x y x' y':Int}(hy:0<y)(hy':0<y')(h:Int.gcd x y=1)(h':Int.gcd x' y'=1)(e:x*y'=x'*y):x=x'/\y=y':=by
 have d1:y∣y':=Ct (b:=x) (by rw[Int.gcd_comm];exact h) (by rw[e];exact Int.dvd_mul_left _ _)
 have d2:y'∣y:=Ct (b:=x') (by rw[Int.gcd_comm];exact h') (by rw[←e];exact Int.dvd_mul_left _ _)
 have ey:=Int.dvd_antisymm (Int.le_of_lt hy) (Int.le_of_lt hy') d1 d2
 subst ey
 exact⟨Int.eq_of_mul_eq_mul_right (Int.ne_of_gt hy) e,rfl⟩
theorem Dg{f g:aS}(hf:0<f.2)(hg:0<g.2):f.1*g.2=g.1*f.2↔aZ f=aZ g:=by
 obtain⟨a,b⟩:=f
 obtain⟨c,d⟩:=g
 have hb:0<b:=hf
 have hd:0<d:=hg
 have g1:=jB a hb
 have g2:=jB c hd
 have a1:=AV a b
 have a2:=AU a b
 have c1:=AV c d
 have c2:=AU c d
 have p1:=uf a hb
 have p2:=uf c hd
 have o1:=EY a hb
 have o2:=EY c hd
 show a*d=c*b↔lo a b=lo c d
 generalize hx:lo a b=f at *
 generalize hy:lo c d=g at *
 obtain⟨x,y⟩:=f
 obtain⟨x',y'⟩:=g
 dsimp only at *
 generalize (Int.gcd a b:Int)=u at *
 generalize (Int.gcd c d:Int)=v at *
 constructor
 ·intro e
  rw[←a1,←a2,←c1,←c2]at e
  have e2:x*y'=x'*y:=by
   have e3:(x*y')*(u*v)=(x'*y)*(u*v):=by
    calc (x*y')*(u*v)=x*u*(y'*v):=by ac_rfl
     _=x'*v*(y*u):=e
     _=(x'*y)*(u*v):=by ac_rfl
   exact Int.eq_of_mul_eq_mul_right (Int.ne_of_gt (Int.mul_pos g1 g2)) e3
  obtain⟨z1,z2⟩:=EX p1 p2 o1 o2 e2
  rw[z1,z2]
 ·intro e
  cases e
  rw[←a1,←a2,←c1,←c2]
  calc x*u*(y*v)=(x*y)*(u*v):=by ac_rfl
   _=x*v*(y*u):=by ac_rfl
theorem gF{f:aS}(hf:0<f.2):aZ (aZ f)=aZ f:=by
 have hb:0<(aZ f).2:=uf f.1 hf
 exact(Dg hb hf).mp (EZ f.1 f.2)
theorem E2{rows:List (List aS)}(h:∀r∈rows,∀f∈r,0<f.2):gU (gU rows)=gU rows:=by
 unfold gU
 rw[List.map_map]
 refine List.map_congr_left λr hr=>?_
 show(r.map aZ).map aZ=r.map aZ
 rw[List.map_map]
 exact List.map_congr_left λf hf=>gF (h r hr f hf)
end GP
namespace L2
open PySem PySem.Spec PyProof.Rows
def zE(scope:Scope)(X:Cx):Bool:=scope.names.all λy=>(y.2 != NameKind.free)||(X.env.scope.names.lookup y.1==some NameKind.cell)
def Vm(scope:Scope)(X:Cx)(N:List Str)(nt:Nat)(ix:List Nat):Bool:=(List.range ix.length).all λk=>match N[nt+k]?,ix[k]? with
 |some x,some j=>(X.N[j]? ==some x)&&(scope.names.contains (x,NameKind.free))&&((relabel scope X.env).names.lookup x==some NameKind.cell)
 |_,_=>false
theorem cC.zE{X:Cx}{scope:Scope}{N:List Str}{nt:Nat}{ix:List Nat}(kind:scope.kind= .function)(cell:∀y∈scope.names,y.2= .cell->(y.1,NameKind.free)∉scope.names)
  (names:∀y∈scope.names,y.2= .local->scope.names.lookup y.1=some .local) (hf:L2.zE scope X=true) (hl:N.length=nt+ix.length) (hx:Vm scope X N nt ix=true) (ok:X.Ok) :
  ∃cl,cC X scope cl N (Nz nt ix):=by
 refine cC.free kind cell names (λy hy hk=>?_) hl (λk j hj=>?_) ok
 ·have z:=List.all_eq_true.mp hf y hy
  rw[hk]at z
  have z2:X.env.scope.names.lookup y.1=some NameKind.cell:=by simpa using z
  exact z2
 ·have hk:k<ix.length:=(List.getElem?_eq_some_iff.mp hj).1
  have z:=List.all_eq_true.mp hx k (List.mem_range.mpr hk)
  have hn:nt+k<N.length:=by omega
  rw[List.getElem?_eq_getElem hn,hj]at z
  simp only[Bool.and_eq_true]at z
  obtain⟨⟨z1,z2⟩,z3⟩:=z
  exact⟨_,List.getElem?_eq_getElem hn,by simpa using z1,by simpa using z2,by simpa using z3⟩
theorem Kp.Jq{r:St}{v:Option V}:Kp (none::r) ((none::r).set 0 v):=λi x e=>by
 cases i with
 |zero=>cases e
 |succ i=>exact e
theorem bA{X:Cx}:iV X (.builtin "isinstance") (λxs H Q=>∃x n t b,xs=[x,.ty n]/\(pJ X.K H x t\/∃a ys,x= .ref a/\cL X.K H a ys/\t= .type "tuple")/\PySem.W.kitOne X.K t (.type n)=some b/\Q (.bl b) H):=by
 intro pins s σ H xs us Q I r h
 obtain⟨x,n,t,b,rfl,ty,e,q⟩:=h
 obtain⟨u,w',rfl,rx,rn⟩:=vals2 r
 cases rn
 rcases ty with ty|⟨a,ys,rfl,hs,rfl⟩
 ·exact TK.b9 (Nat.le_refl s.toks) (vX I rx ty e λtk hup=>⟨.bl b,H,I.tok _,rfl,q⟩)
 ·cases (show u=Value.ref a from rx)
  obtain⟨its,_,⟨o,h1,h2,_⟩,_⟩:=I.tuple hs
  exact TK.b9 (Nat.le_refl s.toks) (PySem.W.kia_one PySem.W.kitx_tuple I.kK ⟨o,h1,h2⟩ e (λz=>nomatch z) λtk hup=>⟨.bl b,H,I.tok _,rfl,q⟩)
end L2
namespace GP
open PySem L2 iX
theorem gG{K:PySem.W.Frag}{t:Value}:PySem.W.kitOne K t t=some true:=by unfold PySem.W.kitOne;rw[if_pos (by simp)]
theorem qf{K:PySem.W.Frag}:PySem.W.kitOne K (.type "int") (.type "bool")=some false:=by kernel_rfl
theorem qe{K:PySem.W.Frag}:PySem.W.kitOne K (.type "int") (.type "dict")=some false:=by kernel_rfl
theorem qd{K:PySem.W.Frag}:PySem.W.kitOne K (.type "int") (.type "list")=some false:=by kernel_rfl
theorem oO{K:PySem.W.Frag}:PySem.W.kitOne K (.type "int") (.type "tuple")=some false:=by kernel_rfl
theorem rK{K:PySem.W.Frag}:PySem.W.kitOne K (.type "int") (.type "str")=some false:=by kernel_rfl
theorem uo{K:PySem.W.Frag}:PySem.W.kitOne K (.type "tuple") (.type "dict")=some false:=by kernel_rfl
theorem nB{K:PySem.W.Frag}:PySem.W.kitOne K (.type "tuple") (.type "list")=some false:=by kernel_rfl
def Wo(t:Addr)(H:Hp):Hp:=λb=>if b=t then none else H b
theorem Wo.sub{t:Addr}{H:Hp}:ai (Wo t H) H:=λb u h=>by
 unfold Wo at h
 by_cases e:b=t
 ·rw[if_pos e]at h;cases h
 ·rw[if_neg e]at h;exact h
theorem Wo.ne{t:Addr}{H:Hp}{b:Addr}{u:HO}(h:Wo t H b=some u):b≠t:=λe=>by
 unfold Wo at h
 rw[if_pos e]at h;cases h
theorem Wo.in{t:Addr}{H:Hp}{b:Addr}{u:HO}(n:b≠t)(h:H b=some u):Wo t H b=some u:=by
 unfold Wo
 rw[if_neg n];exact h
theorem Wo.free{t:Addr}{H:Hp}{b:Addr}(h:H b=none):Wo t H b=none:=by
 unfold Wo
 split
 ·rfl
 ·exact h
theorem Wo.set{t:Addr}{H:Hp}{o:HO}:Wo t (L2.upd H t o)=Wo t H:=by
 funext b
 unfold Wo
 by_cases e:b=t
 ·rw[if_pos e,if_pos e]
 ·rw[if_neg e,if_neg e,az e]
theorem Wo.same{t:Addr}{H H':Hp}(e:ai H H'):ai (Wo t H) (Wo t H'):=λb u h=>Wo.in (Wo.ne h) (e b u (Wo.sub b u h))
theorem Wo.upd{t:Addr}{H:Hp}{o:HO}:ai (Wo t H) (L2.upd H t o):=λb u h=>by rw[az (Wo.ne h)];exact Wo.sub b u h
theorem sY{H:Hp}{t r:Addr}{o:HO}(h:L2.upd H t o r=none):H r=none:=by
 by_cases e:r=t
 ·rw[e,af]at h;cases h
 ·rw[az e]at h;exact h
structure rD(K:PySem.W.Frag)(H:Hp)(s t:Addr)(ns:List Int)(k:Int):Prop where
 sq:bX K (Wo t H) s (ns.map V.int)
 len:ns.length<=63
 at_:H t=some (.lst [.int k])
 k0:0<=k
theorem rD.QB{K:PySem.W.Frag}{H:Hp}{s t:Addr}{ns:List Int}{k:Int}(c:rD K H s t ns k):bX K H s (ns.map V.int):=ai.seq Wo.sub c.sq
theorem rD.Lz{K:PySem.W.Frag}{H:Hp}{s t:Addr}{ns:List Int}{k:Int}(c:rD K H s t ns k)(o:HO):bX K (L2.upd H t o) s (ns.map V.int):=ai.seq Wo.upd c.sq
theorem rD.same{K:PySem.W.Frag}{H H':Hp}{s t:Addr}{ns:List Int}{k:Int}(c:rD K H s t ns k)(e:ai H H'):rD K H' s t ns k:=⟨ai.seq (Wo.same e) c.sq,c.len,e _ _ c.at_,c.k0⟩
theorem rD.step{K:PySem.W.Frag}{H:Hp}{s t:Addr}{ns:List Int}{k k':Int}(c:rD K H s t ns k)(h:0<=k'):rD K (L2.upd H t (.lst [.int k'])) s t ns k':=⟨by rw[Wo.set];exact c.sq,c.len,af,h⟩
theorem rD.off{K:PySem.W.Frag}{H H':Hp}{s t:Addr}{ns:List Int}{k k':Int}(c:rD K H s t ns k)(e:ai (Wo t H) (Wo t H'))(h:H' t=some (.lst [.int k']))(h0:0<=k'):rD K H' s t ns k':=⟨ai.seq e c.sq,c.len,h,h0⟩
def S6(i:Int):Prop:=i.natAbs<10 ^ 60
theorem zO{c:Int}(h1: -(10 ^ 40)<=c)(h2:c<=10 ^ 40):S6 c:=Nat.lt_of_le_of_lt (show c.natAbs<=10 ^ 40 by omega) (by decide +kernel)
theorem CA(e:Int):S6 (e % ((10:Int) ^ (38:Int).toNat)-5*(10:Int) ^ (37:Int).toNat):=by
 have e1:(10:Int) ^ (38:Int).toNat=100000000000000000000000000000000000000:=by decide
 have e2:(10:Int) ^ (37:Int).toNat=10000000000000000000000000000000000000:=by decide
 rw[e1,e2]
 have h1:=Int.emod_nonneg e (show(100000000000000000000000000000000000000:Int)≠0 by decide)
 have h2:=Int.emod_lt_of_pos e (show(0:Int)<100000000000000000000000000000000000000 by decide)
 exact zO (by omega) (by omega)
def DG(f:aS):Prop:=1<=f.2/\f.2<=999/\S6 f.1
def qD(K:PySem.W.Frag):Sp:=λvs H Q _=>∃(s t:Addr) (ns:List Int) (k:Int),vs=[.ref s,.ref t]/\rD K H s t ns k/\k<=100000 ∧
 ∀m:Int,0<=m->m<1999999973->Q (.int m) (L2.upd H t (.lst [.int (k+1)]))
def Al(K:PySem.W.Frag):Sp:=λvs H Q _=>∃(s t:Addr) (ns:List Int) (k:Int),vs=[.ref s,.ref t]/\rD K H s t ns k/\k<=100000 ∧
 ∀(f:aS) (q:Addr) (H':Hp),DG f->ai (L2.upd H t (.lst [.int (k+1)])) H'->H q=none->H' q=some (.tup [.int f.1,.int f.2])->Q (.ref q) H'
def Bv(K:PySem.W.Frag):Sp:=λvs H Q _=>∃(s t:Addr) (ns:List Int) (k n:Int),vs=[.ref s,.ref t,.int n]/\rD K H s t ns k/\k<=100000/\1<=n/\n<=12 ∧
 ∀sg,ig sg->((sg.cps.size:Nat):Int)<=n->Q (.str sg) (L2.upd H t (.lst [.int (k+1)]))
structure oA(K:PySem.W.Frag)(H:Hp)(l:Addr)(rs:List Addr)(rows:List (List aS)):Prop where
 len:rs.length=rows.length
 at_:H l=some (.lst (rs.map V.ref))
 nd:rs.Nodup
 nl:l∉rs
 row:∀(i:Nat) r row,rs[i]? =some r->rows[i]? =some row->∃ps:List Addr,H r=some (.lst (ps.map V.ref))/\Paired (eB K H) ps row
theorem oA.same{K:PySem.W.Frag}{H H':Hp}{l:Addr}{rs:List Addr}{rows:List (List aS)}(e:ai H H')(h:oA K H l rs rows):oA K H' l rs rows :=
 ⟨h.len,e _ _ h.at_,h.nd,h.nl,λi r row h1 h2=>by
  obtain⟨ps,a,b⟩:=h.row i r row h1 h2
  exact⟨ps,e _ _ a,Paired.iW b λ_ _ z=>z.same e⟩⟩
theorem vO{α β:Type}{F:α->β->Prop}:∀{l₁:List α} {l₂:List β},l₁.length=l₂.length->(∀(i:Nat) x y,l₁[i]? =some x->l₂[i]? =some y->F x y)->Paired F l₁ l₂
 |[],[],_,_=>.nil
 |x::l₁,y::l₂,hl,h=>.cons (h 0 x y rfl rfl) (vO (by simpa using hl) λi a b h1 h2=>h (i+1) a b h1 h2)
theorem oA.Q4{K:PySem.W.Frag}{H:Hp}{l:Addr}{rs:List Addr}{rows:List (List aS)}(h:oA K H l rs rows):Bd K H (.lst l) rows:=by
 refine⟨λx z=>(by cases z),rs.map Cp.lst,λd hd x z=>?_,?_,?_⟩
 ·obtain⟨q,_,e⟩:=List.mem_map.mp hd
  rw[←e]at z
  cases z
 ·rw[List.map_map]
  exact bX.of h.at_
 ·refine o8 (vO h.len λi r row h1 h2=>?_)
  obtain⟨ps,a,b⟩:=h.row i r row h1 h2
  exact⟨ps,bX.of a,b⟩
def BA(K:PySem.W.Frag):Sp:=λvs H Q _=>∃(s t:Addr) (ns:List Int) (k n:Int),vs=[.ref s,.ref t,.int n]/\rD K H s t ns k/\k<=90000/\1<=n/\n<=12 ∧
 ∀l rs H' rows k',oA K (Wo t H') l rs rows->Bc n.toNat rows->(∀r∈rows,∀f∈r,DG f)->(∀r∈rs,H r=none)->H l=none->ai (Wo t H) (Wo t H')->H' t=some (.lst [.int k'])->k<=k'->k'<=k+145->Q (.ref l) H'
def Aj:Sp:=λvs H Q _=>∃a b:Int,vs=[.int a,.int b]/\0<=a/\0<=b/\Q (.int (Int.gcd a b)) H
def BC(K:PySem.W.Frag):Sp:=λvs H Q _=>∃(a:Addr) (ns:List Int),vs=[.ref a]/\bX K H a (ns.map V.int)/\ns.length<=63/\∀H',Q (.bl true) H'
end GP
namespace L2
open PySem PySem.Spec PyProof.Rows
set_option maxHeartbeats 2000000 in
theorem wk{X:Cx}{elt tg iter:Expr}{scope:Scope}{pos pos':Pos}{wi:TI}{g:TG}{te:TE}{N:List Str}{lO:St->St}(hc:X.calm=true)(hS:X.Ok->∃cl,cC X scope cl N lO)(hi:PI X tg iter wi)
  (hg:∀cl C s H ex pn E,PG (iK X scope cl C N s H ex pn E) tg g) (he:∀cl C s H ex pn E,PE (iK X scope cl C N s H ex pn E) elt te) (hs:∀x,foldedSetIterable iter X.env x=pure x)
  {pins:List (Addr×Obj)} {s:Shared} {σ:St} {H:Hp} {Q:VK} {use:Option (Value->Sem Unit)} {QQ:Value->Shared->Prop} (I:Inv X pins σ H s) (h:yF wi g te lO σ H Q)
  (Ke:∀(l C:Addr) (mC:Str->Option Value) (H':Hp) (s':Shared),Inv X pins σ H' s'->nM X pins H' C->s'.heap.Ns C mC->Q (.ref l) H'->compPost (model X.prog X.w) X.A X.xe use QQ (.ref l) C (.ok .next) s') :
  wpAny (model X.prog X.w) X.A (comprehension (.ListComp elt [⟨tg,iter,[],0⟩] scope pos) scope X.env pos' (newList []) false (eval iter X.env) use) QQ X.xe s:=by
 obtain⟨cl,S⟩:=hS I.ok
 refine wpAny_comprehension_free (use:=use) rfl hs S.clos S.kind S.names (fK (hi pins s σ H _ I h) λv s1 h1=>fK h1 λitv s2 h2=>?_)
 obtain⟨it,fp,tn,J,H2,e,I2,T,st2,f2,hq⟩:=h2
 subst e
 obtain⟨W,⟨m0,w0⟩,turn⟩:=hq _ I2.fresh
 refine wpAny_newObj_type (zN S λxM h₁ G AZ kp=>?_)
 have I3:Inv X pins σ (upd H2 s2.heap.objs.size (.lst [])) { s2 with heap:=s2.heap.push { cls:=.type "list",data:=.seq ([]:List Value).toArray } }:=I2.E4 (t':=s2.toks) .nil (Nat.zero_le _)
 have yV:∀b o,s2.heap.get? b=some o->(s2.heap.push { cls:=.type "list",data:=.seq ([]:List Value).toArray }).get? b=some o:=λb o e=>Heap.get?_push_of_some _ e
 have f3:∀b∈fp,nM X pins (upd H2 s2.heap.objs.size (.lst [])) b/\b<(s2.heap.push { cls:=.type "list",data:=.seq ([]:List Value).toArray }).objs.size:=λb hb=>by
  obtain⟨o,ho,_⟩:=T.obj _ _ st2 b hb
  have hlt:=Heap.lt_size ho
  obtain⟨f0,f1⟩:=f2 b hb
  exact⟨⟨by rw[az (Nat.ne_of_lt hlt)];exact f0,f1⟩,Heap.lt_size (yV b o ho)⟩
 have st3:tn 0 h₁:=T.keep _ _ _ st2 λb _ o e=>kp b o (yV b o e)
 generalize hR:(λr s'=>compPost (model X.prog X.w) X.A X.xe use QQ (.ref s2.heap.objs.size) (s2.heap.push { cls:=.type "list",data:=.seq ([]:List Value).toArray }).objs.size r s')=R
 generalize mJ:iK X scope xM (s2.heap.push { cls:=.type "list",data:=.seq ([]:List Value).toArray }).objs.size N { s2 with heap:=s2.heap.push { cls:=.type "list",data:=.seq ([]:List Value).toArray } }
  (upd H2 s2.heap.objs.size (.lst [])) fp (X.pn++pins) (notedBy (model X.prog X.w) X.A (compEnvC scope xM (s2.heap.push { cls:=.type "list",data:=.seq ([]:List Value).toArray }).objs.size X.env) λe s'=>R (.error e) s')=X'
 have I4:Inv X' [] (lO σ) (upd H2 s2.heap.objs.size (.lst [])) { s2 with heap:=h₁ }:=by
  subst mJ
  exact zv (s:={ s2 with heap:=s2.heap.push { cls:=.type "list",data:=.seq ([]:List Value).toArray } }) S G I3 f3 kp AZ s2.toks
 have SH:PG X' tg g:=by subst mJ;exact hg _ _ _ _ _ _ _
 have SI:PE X' elt te:=by subst mJ;exact he _ _ _ _ _ _ _
 have stat:∀{H':Hp},(∀b∈fp,H' b=none)->∀b∈fp,nM X' [] H' b:=λhn b hb=>by
  subst mJ
  obtain⟨⟨_,f1,fn,_,f4,f5⟩,lt⟩:=f3 b hb
  refine⟨hn b hb,Nat.ne_of_lt lt,λz=>?_,.inl hb,λx c e=>(G.look x c e).elim (λz=>Nat.ne_of_gt (Nat.lt_trans lt z.1)) λz=>f4 x c (S.sub x c z),λp hp=>f5 p ?_⟩
  ·rcases List.mem_cons.mp (I3.oX b z)with q|q
   ·exact f1 q
   ·exact fn q
  ·rcases List.mem_append.mp hp with z|z
   ·exact z
   ·cases z
 have hp1:X'.prog=X.prog:=by subst mJ;rfl
 have hp2:X'.w=X.w:=by subst mJ;rfl
 have hp3:X'.K=X.K:=by subst mJ;rfl
 have JY:X'.calm=true:=by subst mJ;exact hc
 have yr:X'.A=X.A:=by subst mJ;rfl
 have Ds:X'.env=compEnvC scope xM (s2.heap.push { cls:=.type "list",data:=.seq ([]:List Value).toArray }).objs.size X.env:=by subst mJ;rfl
 have Fg:X'.xe=notedBy (model X.prog X.w) X.A X'.env λe s'=>R (.error e) s':=by subst mJ;rfl
 have fin:∀{H':Hp} {s':Shared},Inv X' [] (lO σ) H' s'->Q (.ref s2.heap.objs.size) H'->R (.ok .next) s':=by
  intro H' s' I5 q
  subst hR
  obtain⟨mC,Ih,_⟩:=I5.loc
  rw[Ds]at Ih
  have hok:lg X.prog X.w H' s'.heap:=by
   have z:=I5.hok
   rw[hp1,hp2]at z
   exact z
  have u:Un (frs X.stack) fp (upd H2 s2.heap.objs.size (.lst [])) H' (s2.heap.push { cls:=.type "list",data:=.seq ([]:List Value).toArray }) s'.heap:=by
   have z:=I5.base
   subst mJ
   exact z
  have hC:H' (s2.heap.push { cls:=.type "list",data:=.seq ([]:List Value).toArray }).objs.size=none:=by
   have zf:=I5.free
   rw[Ds]at zf
   exact zf
  refine Ke _ _ mC H' s' (I3.Cv (ch:=fp) (s':=s') (by have z:=I5.os;subst mJ;exact z) u hok I5.bare (λb hb=>?_) (by have z:=I5.up;subst mJ;exact Nat.le_trans I3.up z)) (I3.zG (Nat.le_refl _) hC) Ih q
  obtain⟨⟨_,f1,_,MT,f4,f5⟩,_⟩:=f3 b hb
  exact⟨MT,f1,f4,f5⟩
 have loop:∀s3:Shared,Inv X' [] (lO σ) (upd H2 s2.heap.objs.size (.lst [])) s3->tn 0 s3.heap →
   codeAny (model X.prog X.w) X.A (.compLoop (.ListComp elt [⟨tg,iter,[],0⟩] scope pos) 0 (.ref it) (.ref s2.heap.objs.size) X'.env) R s3:=by
  intro s3 J3 t3
  refine codeAny_loop rfl (λn s'=>∃i ys H',Inv X' [] (lO σ) H' s'/\tn i s'.heap/\(∀b∈fp,H' b=none)/\W i n ys H') ?_ m0 ⟨0,[],_,J3,t3,λb hb=>(f3 b hb).1.1,w0⟩
  rintro n s4 ⟨i,ys,H4,J4,t4,n4,w4⟩
  show wpAny _ _ ((compTurn (.ListComp elt [⟨tg,iter,[],0⟩] scope pos) 0 (.ref it) (.ref s2.heap.objs.size) X'.env).onRaise (λx=>do noteFrame x X'.env;theTreesLotGoes x)) _ _ s4
  refine wpAny_noted ?_
  rw[compTurn_list1]
  refine wpAny_bind (wpAny_standAt (wpAny_bind ?_))
  rcases turn i n ys H4 w4 with⟨stop,q⟩|⟨go,step⟩
  ·have z:=T.done X' hp1 hp2 hp3 JY i [] s4 (lO σ) H4 (notedBy (model X.prog X.w) X.A X'.env λe s'=>R (.error e) s') J4 (stat n4) t4 stop
   rw[yr]at z
   refine wpAny_mono z (λr s5 ⟨hr,J5⟩=>?_) λ_ _ x=>x
   subst hr
   exact wpAny_pure (fin J5 q)
  ·have z:=T.item X' hp1 hp2 hp3 JY i [] s4 (lO σ) H4 (notedBy (model X.prog X.w) X.A X'.env λe s'=>R (.error e) s') J4 (stat n4) t4 go
   rw[yr]at z
   refine wpAny_mono z (λr s5 ⟨u,hr,h5⟩=>?_) λ_ _ x=>x
   subst hr
   refine wpAny_bind (wpAny_mono h5 (λ_ s6 ⟨x,H6,J6,r6,y6,t6,n6⟩=>?_) λ_ _ x=>x)
   have SJ:=J6.pinned (stat n6) (T.obj _ _ t6)
   have zg:=SH _ s6 (lO σ) H6 x u _ SJ r6 (step x H6 y6)
   rw[hp1,hp2,yr,Fg]at zg
   refine wpAny_bind (wpAny_mono zg (λ_ s7 ⟨ym,H7,J7,k7,q7⟩=>?_) λ_ _ x=>x)
   have ze:=SI _ s7 ym H7 _ J7 q7
   rw[hp1,hp2,yr,Fg]at ze
   refine wpAny_bind (wpAny_bind (wpAny_mono ze (λyv s8 ⟨y,H8,J8,r8,e8,z8,m',hm,w8⟩=>?_) λ_ _ x=>x))
   have za:=jZ (X:=X') _ s8 ym H8 (.ref s2.heap.objs.size) [y] (.ref s2.heap.objs.size) [yv] (λ_ H9=>H9=upd H8 s2.heap.objs.size (.lst (ys++[y]))) J8 rfl (.cons r8 .nil) ⟨_,ys,y,rfl,rfl,e8,z8,rfl⟩
   rw[hp1,hp2,yr,Fg]at za
   refine wpAny_bind (wpAny_mono za (λ_ s9 ⟨_,H9,J9,_,e9⟩=>?_) λ_ _ x=>x)
   subst e9
   refine wpAny_pure (wpAny_pure ⟨rfl,m',hm,i+1,ys++[y],_,?_,?_,?_,w8⟩)
   ·refine J9.Hw.weak ?_ ?_
    ·rw[S.len,J9.len]
     subst mJ
     rfl
    ·exact k7
   ·exact T.keep _ _ _ t6 λb hb o e=>(J9.pin (b,o) (List.mem_append_right _ (List.mem_append_right _ (iH hb e)))).1
   ·intro b hb
    obtain⟨o,e,d⟩:=T.obj _ _ t6 b hb
    exact(J9.pin (b,o) (List.mem_append_right _ (List.mem_append_right _ (iH hb e)))).2.1
 have l0:=loop _ I4 st3
 have l1:=codeAny_compStart_list l0 (T.self X.A 0 _ _ _ st3 l0)
 rw[Ds]at l1
 subst hR
 exact l1
theorem gv{X:Cx}{elt tg iter:Expr}{scope:Scope}{pos:Pos}{wi:TI}{g:TG}{te:TE}{N:List Str}{lO:St->St}(hc:X.calm=true)(hS:X.Ok->∃cl,cC X scope cl N lO)(hi:PI X tg iter wi)
  (hg:∀cl C s H ex pn E,PG (iK X scope cl C N s H ex pn E) tg g) (he:∀cl C s H ex pn E,PE (iK X scope cl C N s H ex pn E) elt te)
  (hs:∀x,foldedSetIterable iter X.env x=pure x:=by intro _;rfl):PE X (.ListComp elt [⟨tg,iter,[],0⟩] scope pos) (yF wi g te lO):=by
 intro pins s σ H Q I h
 rw[eval_ListComp]
 refine wk (use:=none) (QQ:=EP X pins σ Q) hc hS hi hg he hs I h ?_
 intro l C mC H' s' I' fp hn q
 exact⟨mC,hn,λh' sb=>⟨.ref l,H',I'.moved (ch:=[C]) (t':=s'.toks) (λb o hb e=>(sb.2 b (by simpa using hb)).trans e) (λb hb=>by rw[List.mem_singleton.mp hb];exact fp),rfl,q⟩⟩
theorem tQ{X:Cx}{i:Nat}{y:Str}{py spos:Pos}{elt tg iter:Expr}{scope:Scope}{pos:Pos}{wi:TI}{g:TG}{te:TE}{N:List Str}{lO:St->St}(hN:X.N.Nodup)(hi:X.N[i]? =some y)(hx:Loc X.env.scope y)
  (hc:X.calm=true) (hS:X.Ok->∃cl,cC X scope cl N lO) (hit:PI X tg iter wi)
  (hg:∀cl C s H ex pn E,PG (iK X scope cl C N s H ex pn E) tg g) (he:∀cl C s H ex pn E,PE (iK X scope cl C N s H ex pn E) elt te)
  (hsw:swapsWith (.ListComp elt [⟨tg,iter,[],0⟩] scope pos) (some (.Name y py)) spos.line X.env=pure true:=by rfl)
  (hf:X.fn y=true\/X.env.scope.names.lookup y=some .local:=by first|exact .inl rfl|exact .inr rfl|assumption)
  (hs:∀x,foldedSetIterable iter X.env x=pure x:=by intro _;rfl):PS X (.Assign [.Name y py] (.ListComp elt [⟨tg,iter,[],0⟩] scope pos) spos) (Gp (yF wi g te lO) (Ck i)):=by
 intro pins s σ H D I h
 rw[exec_Assign_Name_used _ _ _ _ hsw]
 refine wpAny_bind (wpAny_standAt (wpAny_bind ?_))
 show wpAny _ X.A (do let _ ←comprehension (.ListComp elt [⟨tg,iter,[],0⟩] scope pos) scope X.env _ (newList []) false (eval iter X.env) (some (assign (.Name y py) X.env))) _ _ s
 refine wpAny_bind (wpAny_mono (wk (use:=some (assign (.Name y py) X.env)) (QQ:=λ_ s'=>SP X pins D .next s') hc hS hit hg he hs I h ?_) (λ_ s' hq=>wpAny_pure (wpAny_pure hq)) λ_ _ e=>e)
 intro l C mC H' s' I' fp hn q
 show wpAny _ X.A (assign (.Name y py) X.env (.ref l)) _ _ _
 refine wpAny_assign_Name (qB I' hN hi hx (v:=.ref l) rfl (λs2 I2 sb=>?_) hf)
 obtain⟨a,sb,ha⟩:=sb
 have nC:C≠a:=by
  obtain⟨_,f1,_,_,f4,_⟩:=fp
  rcases ha with z|z
  ·rw[z];exact f1
  ·exact λe=>f4 y a z e.symm
 refine⟨mC,hn.sameBut sb nC,λh' QC=>?_⟩
 refine⟨_,H',I2.moved (ch:=[C]) (t':=s2.toks) (λb o hb e=>(QC.2 b (by simpa using hb)).trans e) (λb hb=>?_),q⟩
 rw[List.mem_singleton.mp hb]
 exact fp
end L2
namespace L2
open PySem PySem.Spec PyProof.Rows
theorem GZ{X:Cx}{K':PySem.W.Frag}(hK:X.K=K'):Nj X (LN K'):=by subst hK;exact bW
end L2
namespace GP
open PySem L2 iX
theorem Wo.az{t q:Addr}{H:Hp}{o:HO}(n:q≠t):Wo t (L2.upd H q o)=L2.upd (Wo t H) q o:=by
 funext b
 by_cases e:b=q
 ·subst e
  rw[L2.af]
  unfold Wo
  rw[if_neg n,L2.af]
 ·rw[L2.az e]
  unfold Wo
  split
  ·rfl
  ·rw[L2.az e]
theorem Wo.step{t:Addr}{H H':Hp}{o:HO}(e:ai (L2.upd H t o) H'):ai (Wo t H) (Wo t H'):=by
 have z:=Wo.same (t:=t) e
 rw[Wo.set]at z
 exact z
theorem Wo.back{t r:Addr}{H H':Hp}{o:HO}(e:ai (Wo t H) (Wo t H'))(ht:H' t=some o)(h:H' r=none):H r=none:=by
 cases q:H r with
 |none=>rfl
 |some u =>
  have n:r≠t:=λz=>by rw[z,ht]at h;cases h
  have z:=Wo.sub _ _ (e r u (Wo.in n q))
  rw[h]at z
  cases z
theorem Paired.Lx{α β:Type}{F:α->β->Prop}{x:α}{y:β}:∀{l₁:List α} {l₂:List β} (j:Nat),Paired F l₁ l₂->F x y->Paired F (l₁.set j x) (l₂.set j y)
 |_,_,_,.nil,_=>.nil
 |_,_,0,.cons r t,h=>.cons h t
 |_,_,j+1,.cons r t,h=>.cons r (Paired.Lx j t h)
theorem oA.put{K:PySem.W.Frag}{H:Hp}{l r p:Addr}{rs ps:List Addr}{rows:List (List aS)}{row:List aS}{i j:Nat}{f:aS}(h:oA K H l rs rows)(hr:rs[i]? =some r)(zA:rows[i]? =some row)
  (hps:H r=some (.lst (ps.map V.ref))) (hp:Paired (eB K H) ps row) (hf:eB K H p f):oA K (L2.upd H r (.lst ((ps.map V.ref).set j (.ref p)))) l rs (rows.set i (row.set j f)):=by
 have NK:l≠r:=λz=>h.nl (z▸List.mem_of_getElem? hr)
 refine⟨by rw[List.length_set];exact h.len,by rw[L2.az NK];exact h.at_,h.nd,h.nl,λi' r' Jv h1 h2=>?_⟩
 have hi:i<rows.length:=(List.getElem?_eq_some_iff.mp zA).1
 by_cases e:i=i'
 ·subst e
  rw[hr]at h1
  cases h1
  rw[List.getElem?_set,if_pos rfl,if_pos hi]at h2
  cases h2
  refine⟨ps.set j p,by rw[L2.af,List.map_set],?_⟩
  exact Paired.iW (Paired.Lx j hp hf) λ_ _ z=>cL.off hps z
 ·rw[List.getElem?_set,if_neg e]at h2
  obtain⟨ps',a,b⟩:=h.row i' r' Jv h1 h2
  have n:r'≠r:=λz=>by
   subst z
   exact e ((List.getElem?_inj (List.getElem?_eq_some_iff.mp hr).1 h.nd).mp (hr.trans h1.symm))
  exact⟨ps',by rw[L2.az n];exact a,Paired.iW b λ_ _ z=>cL.off hps z⟩
theorem oA.snoc{K:PySem.W.Frag}{H H':Hp}{l r:Addr}{rs ps:List Addr}{rows:List (List aS)}{row:List aS}(h:oA K H l rs rows)(e:ai H H')(hr:H r=none)(hps:H' r=some (.lst (ps.map V.ref)))(hp:Paired (eB K H') ps row):
  oA K (L2.upd H' l (.lst (rs.map V.ref++[.ref r]))) l (rs++[r]) (rows++[row]):=by
 have hl':=e _ _ h.at_
 have NK:r≠l:=λz=>by rw[z,h.at_]at hr;cases hr
 have Vf:r∉rs:=λz=>by
  obtain⟨i,hi,ei⟩:=List.getElem_of_mem z
  have hi2:i<rows.length:=by rw[←h.len];exact hi
  obtain⟨ps',a,_⟩:=h.row i r rows[i] (by rw[List.getElem?_eq_getElem hi,ei]) (List.getElem?_eq_getElem hi2)
  rw[hr]at a
  cases a
 refine⟨by rw[List.length_append,List.length_append,h.len];rfl,by rw[L2.af,List.map_append];rfl,?_,?_,λi r' Jv h1 h2=>?_⟩
 ·refine List.nodup_append.mpr ⟨h.nd,(by simp),λx hx y hy z=>?_⟩
  rw[List.mem_singleton.mp hy]at z
  exact Vf (z▸hx)
 ·intro z
  rcases List.mem_append.mp z with z|z
  ·exact h.nl z
  ·exact NK (List.mem_singleton.mp z).symm
 ·by_cases q:i<rs.length
  ·rw[List.getElem?_append_left q]at h1
   rw[List.getElem?_append_left (by rw[←h.len];exact q)]at h2
   obtain⟨ps',a,b⟩:=h.row i r' Jv h1 h2
   have n:r'≠l:=λz=>h.nl (z▸List.mem_of_getElem? h1)
   exact⟨ps',by rw[L2.az n];exact e _ _ a,Paired.iW b λ_ _ z=>cL.off hl' (z.same e)⟩
  ·have q':rs.length<=i:=Nat.le_of_not_lt q
   rw[List.getElem?_append_right q']at h1
   rw[List.getElem?_append_right (by rw[←h.len];exact q')]at h2
   have z:i-rs.length=0:=by
    have:=(List.getElem?_eq_some_iff.mp h1).1
    simp at this
    omega
   rw[z]at h1
   rw[←h.len,z]at h2
   cases h1
   cases h2
   exact⟨ps,by rw[L2.az NK];exact hps,Paired.iW hp λ_ _ z=>cL.off hl' z⟩
end GP
namespace GP
open PySem L2 iX
theorem om.off{K:PySem.W.Frag}{H:Hp}{l P:Addr}{ys:List V}{rows:List (List aS)}{o:HO}(hl:H l=some (.lst ys))(h:om K H P rows):om K (L2.upd H l o) P rows:=by
 obtain⟨qs,a,b⟩:=h
 exact⟨qs,cL.off hl a,Paired.iW b λ_ _ z=>z.off hl⟩
section
variable{K:PySem.W.Frag}{C:Addr}{H0 H H':Hp}{t l x o m:Addr}{rs:List Addr}{sg:Str}{rows:List (List aS)}{fo fm:aS}{k:Int}
end
end GP
namespace L2
open PySem PySem.Spec PyProof.Rows
section
variable{X:Cx}
end
end L2
namespace GP
open PySem L2 iX
end GP
namespace GP
open PySem L2 iX
end GP
namespace L2
open PySem PySem.Spec PyProof.Rows
def z7(h:Heap)(φ:Addr->Prop)(ea:Addr)(cls:Value)(od:Option Addr):Prop :=
 φ ea/\∃vs sl,h.get? ea=some ⟨cls,od,.fields vs,sl⟩/\(od=none->vs[2]? =some .none)/\(vs[1]? =some .none ∨
  ∃T oT ts,vs[1]? =some (.ref T)/\T≠ea/\φ T/\h.get? T=some oT/\oT.data= .fields ts/\3<ts.size)
def oB(h:Heap)(φ:Addr->Prop)(ea:Addr)(cls:Value)(od:Option Addr):Prop :=
 φ ea/\∃vs sl,h.get? ea=some ⟨cls,od,.fields vs,sl⟩/\(od=none->vs[2]? =some .none) ∧
  ∃T oT ts,vs[1]? =some (.ref T)/\T≠ea/\φ T/\h.get? T=some oT/\oT.data= .fields ts/\3<ts.size
theorem oB.n{h:Heap}{φ:Addr->Prop}{ea:Addr}{cls:Value}{od:Option Addr}(x:oB h φ ea cls od):z7 h φ ea cls od:=by
 obtain⟨p,vs,sl,e,c2,t⟩:=x
 exact⟨p,vs,sl,e,c2,.inr t⟩
theorem z7.to{h:Heap}{φ ψ:Addr->Prop}{ea:Addr}{cls:Value}{od:Option Addr}(x:z7 h φ ea cls od)(m:∀b,φ b->ψ b):z7 h ψ ea cls od:=by
 obtain⟨p,vs,sl,e,c2,t⟩:=x
 refine⟨m _ p,vs,sl,e,c2,?_⟩
 rcases t with t|⟨T,oT,ts,a,b,c,d⟩
 ·exact .inl t
 ·exact .inr ⟨T,oT,ts,a,b,m _ c,d⟩
theorem oB.keeps{h h':Heap}{φ:Addr->Prop}{ea:Addr}{cls:Value}{od:Option Addr}(x:oB h φ ea cls od)(k:∀b o,φ b->h.get? b=some o->h'.get? b=some o):oB h' φ ea cls od:=by
 obtain⟨p,vs,sl,e,c2,T,oT,ts,a,b,c,d,r⟩:=x
 exact⟨p,vs,sl,k _ _ p e,c2,T,oT,ts,a,b,c,k _ _ c d,r⟩
structure jO(fr:List Addr)(φ:Addr->Prop)(h h':Heap):Prop where
 keep:∀b o,h.get? b=some o->¬ φ b->b∉fr->h'.get? b=some o
 slot:∀b o,h.get? b=some o->¬ φ b->∃sl,h'.get? b=some { o with slots:=sl }
 there:∀b o,h.get? b=some o->∃o',h'.get? b=some o'
 size:h.objs.size<=h'.objs.size
theorem jO.refl{fr:List Addr}{φ:Addr->Prop}{h:Heap}:jO fr φ h h:=⟨λ_ _ e _ _=>e,λ_ o e _=>⟨o.slots,e⟩,λ_ o e=>⟨o,e⟩,Nat.le_refl _⟩
theorem jO.trans{fr:List Addr}{φ:Addr->Prop}{h h1 h2:Heap}(a:jO fr φ h h1)(b:jO fr φ h1 h2):jO fr φ h h2 where
 keep:=λc o e n f=>b.keep c o (a.keep c o e n f) n f
 slot:=λc o e n=>by
  obtain⟨sl,e1⟩:=a.slot c o e n
  obtain⟨yo,e2⟩:=b.slot c _ e1 n
  exact⟨yo,e2⟩
 there:=λc o e=>by
  obtain⟨o',e1⟩:=a.there c o e
  exact b.there c o' e1
 size:=Nat.le_trans a.size b.size
section
variable{M:Model}{A:Around}{E:Value->Shared->Prop}{s:Shared}{base:Heap}{env e0:Env}{r:List Env}{L ea:Addr}{φ:Addr->Prop}{cls:Value}{od:Option Addr}
theorem zF{Q:Value->Shared->Prop}(hs:A.frames=some (e0::r))(hl:s.heap.FunFrames base (e0::r))(h0:e0.frame=some L)(he:env.frame=some L)
  (h:∀h',Heap.SlotsOnly ((e0::r).filterMap (·.frame)) s.heap h'->Q (.ref L) { s with heap:=h' }):wpAny M A (PySem.frameOf env) Q E s:=by
 unfold PySem.frameOf
 refine wpAny_bind (wpAny_frameEnvs hs ?_)
 rw[show((e0::r).dropWhile λx=>x.frame != env.frame)=e0::r by simp[List.dropWhile,h0,he]]
 unfold frameObject
 refine wpAny_bind (wpAny_bind (wpAny_readyFrames_fun hl λh1 k1=>wpAny_pure ?_))
 rw[h0]
 exact wpAny_pure (h h1 k1)
theorem wj{vs:Array Value}{sl:Array (Option Value)}{head:Value}{hadNext:Bool}{Q:Unit->Shared->Prop}(hs:A.frames=some (e0::r))(hl:s.heap.FunFrames base (e0::r))(h0:e0.frame=some L)(hf:env.frame=some L)
  (pe:φ ea) (he:s.heap.get? ea=some ⟨cls,od,.fields vs,sl⟩) (h1:1<vs.size) (h2:od=none->vs[2]? =some .none) (new:∀b,s.heap.objs.size<=b->φ b)
  (q:∀h',jO (frs (e0::r)) φ s.heap h'->oB h' φ ea cls od->Q () { s with heap:=h' }) :
  wpAny M A (do let a ←PySem.frameOf env;let pl ←entryPlaceOf L hadNext;let b ←EntryCells.newEntry head a .none (rawInt L) .none pl;setField (.ref ea) 1 b) Q E s:=by
 have Vg:ea∉(e0::r).filterMap (·.frame):=λhm=>by
  obtain⟨_,o,ho,nf⟩:=hl.mem hm
  rw[he]at ho
  cases ho
  exact nf vs rfl
 refine wpAny_bind (zF hs hl h0 hf λg k=>?_)
 refine wpAny_bind (wpAny_entryPlaceOf λpl pk=>?_)
 simp only[EntryCells.newEntry,newFields]
 refine wpAny_bind (wpAny_newObj_type ?_ (pk.sizeOk5 _ _ _ _ _))
 have e1:g.get? ea=some ⟨cls,od,.fields vs,sl⟩:=(k.2.1 ea Vg).trans he
 have ne:g.objs.size≠ea:=Nat.ne_of_gt (Heap.lt_size e1)
 generalize hob:({ cls:=.type "traceback",dict:=none,data:=.fields ([head,.ref L,.none,rawInt L,.none]++(if pl.isEmpty then List.replicate 6 Value.none else pl)).toArray }:Obj)=ob
 have e2:=Heap.get?_push_of_some (h:=g) ob e1
 refine wpAny_setField e2 rfl h1 (q _ ⟨λb o e n f=>?_,λb o e n=>?_,λb o e=>?_,?_⟩ ⟨pe,_,sl,Heap.get?_update_self _ e2 rfl,λz=>(Array.getElem?_setIfInBounds_ne (by decide)).trans (h2 z),g.objs.size,ob,_,?_,ne,new _ (Nat.le_of_eq k.1.symm),?_,by subst hob;rfl,?_⟩)
 ·have be:b≠ea:=λz=>n (z▸pe)
  rw[Heap.get?_update_other _ _ (Ne.symm be)]
  exact Heap.get?_push_of_some _ ((k.2.1 b f).trans e)
 ·have be:b≠ea:=λz=>n (z▸pe)
  obtain⟨yo,e'⟩:=k.2.2 b o e
  refine⟨yo,?_⟩
  rw[Heap.get?_update_other _ _ (Ne.symm be)]
  exact Heap.get?_push_of_some _ e'
 ·by_cases be:b=ea
  ·subst be
   exact⟨_,Heap.get?_update_self _ e2 rfl⟩
  ·obtain⟨yo,e'⟩:=k.2.2 b o e
   exact⟨{ o with slots:=yo },(Heap.get?_update_other _ _ (Ne.symm be)).trans (Heap.get?_push_of_some _ e')⟩
 ·rw[Heap.size_after_update,Heap.size_push,k.1]
  exact Nat.le_succ _
 ·simp[h1]
 ·rw[Heap.get?_update_other _ _ (Ne.symm ne)]
  exact Heap.get?_push_size _ (by subst hob;rfl)
 ·rw[List.size_toArray,List.length_append]
  exact Nat.lt_of_lt_of_le (by decide:3<5) (Nat.le_add_right _ _)
theorem p8{Q:Unit->Shared->Prop}(hs:A.frames=some (e0::r))(hl:s.heap.FunFrames base (e0::r))(h0:e0.frame=some L)(hf:env.frame=some L)
  (x:z7 s.heap φ ea cls od) (new:∀b,s.heap.objs.size<=b->φ b) (q:∀h',jO (frs (e0::r)) φ s.heap h'->oB h' φ ea cls od->Q () { s with heap:=h' }) :
  wpAny M A (noteFrame (.ref ea) env) Q E s:=by
 obtain⟨pe,vs,sl,he,c2,hv⟩:=x
 unfold noteFrame
 simp only[hf]
 rcases hv with h1|⟨T,oT,ts,h1,ne,pT,hT,hd,h3⟩
 ·refine wpAny_bind (wpAny_field he rfl h1 ?_)
  rw[if_neg (by decide)]
  exact wj hs hl h0 hf pe he (Array.getElem?_eq_some_iff.mp h1).1 c2 new q
 ·have g3:ts[3]? =some ts[3]:=Array.getElem?_eq_getElem h3
  refine wpAny_bind (wpAny_field he rfl h1 ?_)
  rw[if_pos (show(Value.ref T != Value.none)=true by simp)]
  refine wpAny_bind (wpAny_field hT hd g3 ?_)
  by_cases e3:(ts[3]==rawInt L)=true
  ·rw[if_pos e3]
   exact wpAny_pure (q s.heap jO.refl ⟨pe,vs,sl,he,c2,T,oT,ts,h1,ne,pT,hT,hd,h3⟩)
  ·rw[if_neg e3]
   refine wpAny_bind (wpAny_setField hT hd h3 ?_)
   have other:∀b,b≠T->(s.heap.update T (Obj.mapFields (·.setIfInBounds 3 Value.none))).get? b=s.heap.get? b:=λb z=>Heap.get?_update_other _ _ (Ne.symm z)
   have n1:jO (frs (e0::r)) φ s.heap (s.heap.update T (Obj.mapFields (·.setIfInBounds 3 Value.none))):=by
    refine⟨λb o e n f=>(other b λz=>n (z▸pT)).trans e,λb o e n=>⟨o.slots,(other b λz=>n (z▸pT)).trans e⟩,λb o e=>?_,Nat.le_of_eq (Heap.size_after_update ..).symm⟩
    by_cases z:b=T
    ·subst z
     exact⟨_,Heap.get?_update_self _ hT (Obj.isFreed_of_fields (Obj.data_mapFields hd _))⟩
    ·exact⟨o,(other b z).trans e⟩
   refine wj (s:={ s with heap:=s.heap.update T (Obj.mapFields (·.setIfInBounds 3 Value.none)) }) hs (hl.of_keeps λb o e nf=>⟨o,(other b λz=>?_).trans e,rfl⟩) h0 hf pe ((other ea (Ne.symm ne)).trans he) (Array.getElem?_eq_some_iff.mp h1).1 c2
    (λb hb=>new b (Nat.le_trans n1.size hb)) λh' n2 x2=>q h' (n1.trans n2) x2
   subst z
   rw[hT]at e
   cases e
   exact nf ts hd
theorem iI{fl:Option Addr}{fr:List Addr}{Q:Unit->Shared->Prop}(x:oB s.heap φ ea cls od)(q:∀h',jO fr φ s.heap h'->oB h' φ ea cls od->Q () { s with heap:=h' }):
  wpAny M A (setFlight (.ref ea) fl) Q E s:=by
 obtain⟨pe,vs,sl,he,c2,T,oT,ts,h1,ne,pT,hT,hd,h3⟩:=x
 unfold setFlight
 refine wpAny_bind (wpAny_field he rfl h1 ?_)
 rw[if_pos (show(Value.ref T != Value.none)=true by simp)]
 have other:∀(f:Obj->Obj) b,b≠T->(s.heap.update T f).get? b=s.heap.get? b:=λf b z=>Heap.get?_update_other _ _ (Ne.symm z)
 refine wpAny_setField hT hd h3 (q _ ⟨λb o e n f=>(other _ b λz=>n (z▸pT)).trans e,λb o e n=>⟨o.slots,(other _ b λz=>n (z▸pT)).trans e⟩,λb o e=>?_,Nat.le_of_eq (Heap.size_after_update ..).symm⟩
  ⟨pe,vs,sl,(other _ ea (Ne.symm ne)).trans he,c2,T,_,_,h1,ne,pT,Heap.get?_update_self _ hT (Obj.isFreed_of_fields (Obj.data_mapFields hd _)),Obj.data_mapFields hd _,by simp[h3]⟩)
 by_cases z:b=T
 ·subst z
  exact⟨_,Heap.get?_update_self _ hT (Obj.isFreed_of_fields (Obj.data_mapFields hd _))⟩
 ·exact⟨o,(other _ b z).trans e⟩
theorem AD{α:Type}{what:String}{fr:List Addr}{Q:α->Shared->Prop}(x:oB s.heap φ ea cls od)(q:∀h',jO fr φ s.heap h'->oB h' φ ea cls od->E (.ref ea) { s with heap:=h' }):
  wpAny M A (PySem.passOn what (.ref ea) env:Sem α) Q E s:=by
 obtain⟨pe,vs,sl,he,c2,T,oT,ts,h1,r⟩:=id x
 unfold PySem.passOn
 refine wpAny_bind (wpAny_field he rfl h1 ?_)
 rw[if_neg (show ¬((Value.ref T==Value.none)=true) by simp)]
 first
  |exact wpAny_bind (wpAny_pure (wpAny_bind (iI (fr:=fr) x λh' n1 x1=>wpAny_throw (q h' n1 x1))))
  |exact wpAny_bind (iI (fr:=fr) x λh' n1 x1=>wpAny_throw (q h' n1 x1))
end
end L2
namespace L2
open PySem PySem.Spec PyProof.Rows
section
variable{X:Cx}{pins:List (Addr×Obj)}{σ:St}{H H':Hp}{s:Shared}
def Bb(X:Cx)(pins:List (Addr×Obj))(H:Hp)(b:Addr):Prop :=
 H b=none/\b≠X.env.locals/\b∉X.fs/\(X.s₀.heap.get? b=none\/b∈X.ex)/\(∀x c,X.env.cells.lookup x=some c->c≠b)/\∀p∈X.pn++pins,p.1≠b
theorem Inv.KQ{b:Addr}(I:Inv X pins σ H s)(hn:s.heap.get? b=none)(hH:H' b=none):Bb X pins H' b:=by
 refine⟨hH,λz=>?_,λz=>?_,?_,λx c e z=>?_,λp hp z=>?_⟩
 ·obtain⟨m,⟨o,_,_,ho,_⟩,_⟩:=I.loc
  rw[←z,hn]at ho
  cases ho
 ·obtain⟨_,o,ho,_⟩:=I.oj.mem z
  rw[hn]at ho
  cases ho
 ·by_cases hx:b∈X.ex
  ·exact .inr hx
  ·left
   cases q:X.s₀.heap.get? b with
   |none=>rfl
   |some o =>
    obtain⟨o',e⟩:=I.base.there b o q hx
    rw[hn]at e
    cases e
 ·obtain⟨v,o,ho,_⟩:=I.cell x c e
  rw[z,hn]at ho
  cases ho
 ·have q:=(I.pin p hp).1
  rw[z,hn]at q
  cases q
theorem Inv.Gd{b:Addr}(I:Inv X pins σ H s)(hb:s.heap.objs.size<=b):Bb X pins H b:=I.KQ (Heap.get?_none_of_le hb) (I.hok.fresh hb)
theorem Un.noted{fs fr ex:List Addr}{H₀:Hp}{h₀ h h':Heap}{φ:Addr->Prop}(u:Un fs ex H₀ H h₀ h)(n:jO fr φ h h')(new:∀b o,h₀.get? b=some o->b∉ex->¬ φ b)(hf:∀b o,h₀.get? b=some o->b∈fr->b∈fs):Un fs ex H₀ H h₀ h' where
 keep:=λb o e hn nf nx=>n.keep b o (u.keep b o e hn nf nx) (new b o e nx) λz=>nf (hf b o e z)
 slot:=λb o e hn hb nx=>by
  obtain⟨sl,e1⟩:=u.slot b o e hn hb nx
  obtain⟨yo,e2⟩:=n.slot b _ e1 (new b o e nx)
  exact⟨yo,e2⟩
 free:=u.free
 there:=λb o e nx=>by
  obtain⟨o',e1⟩:=u.there b o e nx
  exact n.there b o' e1
 tups:=u.tups
 pG:=u.pG
 pO:=u.pO
theorem lg.noted{P:Program}{w:World}{h h':Heap}{fr:List Addr}{φ:Addr->Prop}(x:lg P w H h)(n:jO fr φ h h')(hφ:∀b,φ b->H b=none)(hf:∀b∈fr,H b=none):lg P w H h':=λa u e =>
 (x a u e).stay (λb v hb q=>by
  have nb:H b≠none:=λz=>by
   rcases hb with y|y
   ·rw[y,e]at z;cases z
   ·rw[y]at z;cases z
  exact n.keep b v q (λz=>nb (hφ b z)) λz=>nb (hf b z)) (λ_ q=>q) λ_ _ q=>q
theorem Inv.noted{h':Heap}(I:Inv X pins σ H s)(n:jO (frs X.stack) (Bb X pins H) s.heap h'):Inv X pins σ H { s with heap:=h' }:=by
 have cellK:∀x c,X.env.cells.lookup x=some c->∀v,s.heap.IsCell c v->h'.IsCell c v:=λx c e v ⟨o,ho,hd⟩=>by
  obtain⟨sl,q⟩:=n.slot c o ho λk=>k.2.2.2.2.1 x c e rfl
  exact⟨_,q,hd⟩
 refine⟨I.ok,I.os,I.bare,I.base.noted n (λb o e nx k=>?_) (λb o e z=>?_),?_,λx c e=>?_,I.free,I.ja,λp hp=>?_,I.hok.noted n (λb k=>k.1) I.sM,I.len,I.up⟩
 ·rcases k.2.2.2.1 with z|z
  ·rw[e]at z;cases z
  ·exact nx z
 ·rcases List.mem_cons.mp (I.oX b z)with q|q
  ·subst q
   exact absurd (Nat.lt_of_lt_of_le (Heap.lt_size e) I.ok.above) (Nat.lt_irrefl _)
  ·exact q
 ·obtain⟨m,⟨o,es,ep,ho,rr⟩,hl⟩:=I.loc
  obtain⟨sl,q⟩:=n.slot _ o ho λk=>k.2.1 rfl
  refine⟨m,⟨_,es,ep,q,rr⟩,λi x v e1 e2 e3=>?_⟩
  obtain⟨u,rv,l⟩:=hl i x v e1 e2 e3
  refine⟨u,rv,?_⟩
  rcases l with l|⟨k,c,e,z⟩
  ·exact .inl l
  ·exact .inr ⟨k,c,e,cellK x c e _ z⟩
 ·obtain⟨v,z⟩:=I.cell x c e
  exact⟨v,cellK x c e v z⟩
 ·obtain⟨e,hn,ne,nf,d⟩:=I.pin p hp
  refine⟨n.keep p.1 p.2 e (λk=>k.2.2.2.2.2 p hp rfl) λz=>?_,hn,ne,nf,d⟩
  rcases List.mem_cons.mp (I.oX _ z)with q|q
  ·exact ne q
  ·exact nf q
end
theorem Un.same{fs ex:List Addr}{H₀ H:Hp}{h₀ h h':Heap}(u:Un fs ex H₀ H h₀ h)(k:∀b o,h₀.get? b=some o->h'.get? b=h.get? b):Un fs ex H₀ H h₀ h' where
 keep:=λb o e hn nf nx=>(k b o e).trans (u.keep b o e hn nf nx)
 slot:=λb o e hn hb nx=>by
  obtain⟨sl,e1⟩:=u.slot b o e hn hb nx
  exact⟨sl,(k b o e).trans e1⟩
 free:=u.free
 there:=λb o e nx=>by
  obtain⟨o',e1⟩:=u.there b o e nx
  exact⟨o',(k b o e).trans e1⟩
 tups:=u.tups
 pG:=u.pG
 pO:=u.pO
def sS(P:Program)(w:World):yu:=λouter H s E e s'=>∃ea cls od H',e= .ref ea/\s'.os=s.os/\AllBare s'.gens/\s.toks<=s'.toks/\Un (frs outer) [] H H' s.heap s'.heap/\lg P w H' s'.heap ∧
 z7 s'.heap (λb=>s.heap.get? b=none/\H' b=none) ea cls od/\E cls od H'
def Lets(X:Cx)(E:St->XK):Prop:=∀(pins:List (Addr×Obj)) (σ:St) (H:Hp) (s:Shared) (ea:Addr) (cls:Value) (od:Option Addr),Inv X pins σ H s->z7 s.heap (Bb X pins H) ea cls od->E σ cls od H->X.xe (.ref ea) s
theorem Lets.pass{X:Cx}{E:St->XK}{pins:List (Addr×Obj)}{σ:St}{H:Hp}{s s':Shared}{e:Value}(L:Lets X E)(I:Inv X pins σ H s)(h:sS X.prog X.w X.stack H s (E σ) e s'):X.xe e s':=by
 obtain⟨ea,cls,od,H',rfl,os,bare,tt,un,hok,x,hE⟩:=h
 have I2:Inv X pins σ H' s':=I.Cv (ch:=[]) os un hok bare (λb z=>nomatch z) (Nat.le_trans I.up tt)
 exact L pins σ H' s' ea cls od I2 (x.to λb k=>I.KQ k.1 k.2) hE
theorem Lets.passes{X:Cx}{E:XK}(L:Lets X λ_=>E):Passes (sS X.prog X.w) X E:=λ_ _ _ _ _ _ I h=>L.pass I h
section
variable{P:Program}{w:World}{K:PySem.W.Frag}{mg:Str->Option Value}{base:Heap}
theorem jz{N:List Str}{qual:Str}{scope:Scope}{f:Addr}{cd:Value}{A:Around}{outer:List Env}{s:Shared}{H:Hp}{E:XK}:Lets (uH (sS P w) P w K mg base N qual scope f cd A outer s H E) λ_=>E:=by
 intro pins σ H' s' ea cls od I x hE
 show wpAny _ _ (leaving _ (.ref ea)) _ _ s'
 unfold leaving
 refine wpAny_bind (p8 I.ok.frames I.stack rfl rfl x (λb hb=>I.Gd hb) λh1 n1 x1=>?_)
 refine iI (fr:=frs (uH (sS P w) P w K mg base N qual scope f cd A outer s H E).stack) x1 λh2 n2 x2=>?_
 have I2:=I.noted (n1.trans n2)
 refine⟨ea,cls,od,H',rfl,I2.os,I2.bare,I2.up,I2.base,I2.hok,x2.n.to λb k=>⟨?_,k.1⟩,hE⟩
 rcases k.2.2.2.1 with z|z
 ·exact z
 ·exact nomatch z
theorem DT.LS{x qual:Str}{st:Stmt}{f:Addr}{fd:FuncData}{N ps:List Str}{k:Nat}{sp:Sp}(F:DT K x qual st f fd)(S:aP N ps (aC st))(len:∀vs H Q E,sp vs H Q E->vs.length=ps.length)
  (hbody:∀(cdv:Value) (A:Around) (outer:List Env) (s:Shared) (H:Hp) (vs:List V) (Q:VK) (E:XK),jd k (A.deeper (envOfC qual (aC st) s.heap.objs.size f cdv))->sp vs H Q E →
   ∃t,vt (uH (sS P w) P w K mg base N qual (aC st) f cdv A outer s H E) (fW st) t/\t { nx:=λ_ H'=>Q .gx H',rt:=Q } (start N vs) H):aW P w K mg base (sS P w) (k+1) f fd ps sp:=by
 obtain⟨oc,od,kV,doc,pm,an,cdv,ct,osl,rfl,lk,hcd⟩:=F.ex
 exact Im lk hcd S len λA outer s H vs Q E hr zw=>hbody cdv A outer s H vs Q E hr zw
end
theorem b8.got{P:Program}{w:World}{H:Hp}{h:Heap}{a:Addr}{o:HO}(x:b8 P w H h a o):h.get? a≠none:=by
 cases o with
 |lst xs=>obtain⟨_,_,_,_,e⟩:=x;rw[e];exact λz=>nomatch z
 |tup xs=>obtain⟨_,_,_,ob,e,_⟩:=x;rw[e];exact λz=>nomatch z
 |dK kvs=>obtain⟨_,_,_,_,o,_,_,e,_⟩:=x;rw[e];exact λz=>nomatch z
 |dT kvs=>obtain⟨_,_,_,_,o,_,_,e,_⟩:=x;rw[e];exact λz=>nomatch z
 |set S n=>obtain⟨o,_,_,_,e,_⟩:=x;rw[e];exact λz=>nomatch z
 |ins C dx fs=>obtain⟨_,_,_,e,_⟩:=x;rw[e];exact λz=>nomatch z
 |own y=>obtain⟨_,e⟩:=x;rw[e];exact λz=>nomatch z
 |xd fs=>obtain⟨_,⟨_,_,_,e,_⟩,_⟩:=x;rw[e];exact λz=>nomatch z
 |NH lo hi=>obtain⟨_,_,_,e⟩:=x;rw[e];exact λz=>nomatch z
 |A4 ob u=>obtain⟨e,_⟩:=x;rw[e];exact λz=>nomatch z
 |Hy ps=>have e:h.get? a=some _:=x;rw[e];exact λz=>nomatch z
 |met f y=>have e:h.get? a=some _:=x;rw[e];exact λz=>nomatch z
 |ext φ=>obtain⟨_,⟨_,e⟩,_⟩:=x;rw[e];exact λz=>nomatch z
theorem lg.none_of{P:Program}{w:World}{H:Hp}{h:Heap}{a:Addr}(x:lg P w H h)(e:h.get? a=none):H a=none:=by
 cases q:H a with
 |none=>rfl
 |some o=>exact absurd e (x a o q).got
set_option genInjectivity false in
structure XP where
 nm:Str
 q:Str
 N:Addr
 bs:List Value
 bm:List Value
 hdct:Bool
 sn:List Str
 sub:List Value
 ab:Bool
 col:Option Bool
 dd:Option Addr
 k0:Option Value
 k1:Option Value
 k2:Option Value
 k3:Option Value
 k5:Option Value
 mN:Str->Option Value
abbrev XP.obj(d:XP)(C:Addr)(newId:String):Obj:=excClassObj d.nm d.q C d.N d.bs d.bm d.hdct d.sn d.sub d.ab d.col d.dd d.k0 d.k1 d.k2 d.k3 d.k5 newId
structure SD(K:PySem.W.Frag)(C:Addr)(Bn B newId inN nid initId:String)(bmN bmB:List Value):Prop where
 fn:ExcBaseFacts Bn newId inN bmN
 has:bmB.contains (.type Bn)=true
 fb:ExcBaseFacts B nid initId bmB
 obj:∀h:Heap,K.In h->∃d:XP,h.get? C=some (d.obj C newId)/\h.Ns d.N d.mN/\d.mN "__init__" =none/\OwnTail h bmB d.bm
def FT(K:PySem.W.Frag)(C:Addr):Prop:=∃Bn B newId inN nid initId bmN bmB,SD K C Bn B newId inN nid initId bmN bmB
theorem Ge {K:PySem.W.Frag} {C:Addr} (q:PySem.W.excIn K C [.type "ValueError",.type "Exception",.type "BaseException",.type "object"] "ValueError.__new__" =true):FT K C:=by
 refine⟨_,_,_,_,_,_,_,_,PySem.F.excBase_ValueError,PySem.F.excBase_ValueError.hasB,PySem.F.excBase_ValueError,λh k=>?_⟩
 unfold PySem.W.excIn at q
 split at q
 ·rename_i dd cd sl hob
  split at q
  ·rename_i C' bm k0 k1 k2 k3 nn k5 hmr Fe
   simp only[Bool.and_eq_true,beq_iff_eq,Bool.not_eq_true']at q
   obtain⟨⟨⟨⟨⟨e1,e2⟩,e3⟩,e4⟩,e5⟩,e6⟩:=q
   subst e1 e2
   obtain⟨nm,bs,mro,ns,qn,hd,sn,sub,ab,col,del⟩:=cd
   dsimp only at hmr e3 e5 e6
   subst hmr e3
   have hsl:sl= #[k0,k1,k2,k3,some (.builtin "ValueError.__new__"),k5]:=by
    obtain⟨l⟩:=sl
    simp only at Fe
    rw[Fe]
   subst hsl
   exact⟨⟨nm,qn,ns,bs,bm,hd,sn,sub,ab,col,dd,k0,k1,k2,k3,k5,_⟩,k _ _ hob,.of_isNs (PySem.W.isNs_of_in k e5),PySem.W.nsMap_none_of_in k e5 e6,PySem.W.tail_of_in k e4⟩
  ·cases q
 ·cases q
def Jh(C:Addr)(E:St->XK)(t:TA):TS:=λ_ σ H=>t σ H λvs H1=>vs.length<=sizeLine/\E σ (.ref C) none H1
theorem tR{X:Cx}{E:St->XK}{C:Addr}{x:Str}{np cpos pos:Pos}{e:Expr}{es:List Expr}{t:TA}(L:Lets X E)(OE:FT X.K C)(hc:X.calm=true)
  (hg:Gl X x) (hm:X.mg x=some (.ref C)) (ha:PA X (e::es) t) (hdb:(x==("__debug__" :Str))=false:=by decide) (he:starEach (e::es) X.env=(false,eval e X.env)::starEach es X.env:=by rfl)
  (hpl:(backTo cpos (starEach es X.env)).any (·.1)=false:=by rfl):PS X (.Raise (some (.Call (.Name x np) (e::es) [] cpos)) none pos) (Jh C E t):=by
 intro pins s σ H D I h
 obtain⟨Bn,B,newId,inN,nid,initId,bmN,bmB,O⟩:=OE
 obtain⟨d,hC,hN,hni,T⟩:=O.obj X.base I.ok.mod.E8
 refine wpAny_Raise_call_subU (C:=C) (nm:=d.nm) (q:=d.q) (N:=d.N) (bs:=d.bs) (bm:=d.bm) (hdct:=d.hdct) (sn:=d.sn) (sub:=d.sub) (ab:=d.ab) (col:=d.col) (dd:=d.dd) (k0:=d.k0) (k1:=d.k1) (k2:=d.k2) (k3:=d.k3) (k5:=d.k5) O.fn O.has O.fb
  (mN:=d.mN) (T.hasType O.fb.hasBase) (I.ok.hd hc) (by rw[he];show(false||(backTo cpos (starEach es X.env)).any (·.1))=false;rw[hpl];rfl) hni (jA I hg hm ⟨rfl,?_⟩ hdb)
 have z:=ha cpos pins s σ H _ I h
 rw[he]at z ⊢
 refine Calls.evalArgs_plain (fK z λus s2 ⟨vs,H2,I2,r,hl,q2⟩=>⟨rfl,?_,I2.bk _ _ hC,hN.keeps I2.bk,T.keeps I2.bk,λh' ea hm=>?_⟩)
 ·show us.length<=sizeLine
  rw[←r.length]
  exact hl
 ·obtain⟨t',ht,_,_⟩:=hm.there
  exact L pins σ H2 _ ea (.ref C) none (I2.kept (t':=s2.toks) hm.keeps) ⟨I2.KQ hm.new (I2.hok.none_of hm.new),_,_,ht,λ_=>rfl,.inl rfl⟩ q2
end L2
namespace L2
open PySem PySem.Spec PyProof.Rows
def Fm(X:Cx):Prop:=∃e0 r L,X.stack=e0::r/\e0.frame=some L/\X.env.frame=some L
theorem Fx{CX:yu}{P:Program}{w:World}{K:PySem.W.Frag}{mg:Str->Option Value}{base:Heap}{N:List Str}{qual:Str}{scope:Scope}{f:Addr}{cd:Value}{A:Around}{outer:List Env}{s:Shared}{H:Hp}{E:XK}:
  Fm (uH CX P w K mg base N qual scope f cd A outer s H E):=⟨_,_,_,rfl,rfl,rfl⟩
theorem Ku{CX:yu}{P:Program}{w:World}{K:PySem.W.Frag}{mg:Str->Option Value}{base:Heap}{N:List Str}{qual:Str}{scope:Scope}{f:Addr}{cd:Value}{A:Around}{outer:List Env}{s:Shared}{H:Hp}{E:XK}:
  Fm (uH CX P w K mg base N qual scope f cd A outer s H E).LY:=⟨_,_,_,rfl,rfl,rfl⟩
abbrev Cx.qv(X:Cx)(pn:List (Addr×Obj))(xe:Value->Shared->Prop):Cx:={ X with pn:=pn,xe:=xe }
theorem Cx.Ok.qv{X:Cx}(ok:X.Ok)(pn:List (Addr×Obj))(xe:Value->Shared->Prop):(X.qv pn xe).Ok :=
 ⟨ok.mod,ok.kind,ok.glob,ok.blt,ok.above,ok.inj,ok.has,ok.Hl,ok.hd,ok.frames,ok.stk,ok.N8,ok.bs,ok.DQ,ok.AJ,ok.Dy,ok.oj,ok.F6,ok.tk⟩
section
variable{X:Cx}{pins ps:List (Addr×Obj)}{σ:St}{H:Hp}{s:Shared}{xe:Value->Shared->Prop}
theorem Inv.qv(I:Inv X pins σ H s):Inv (X.qv (X.pn++pins) xe) [] σ H s :=
 ⟨I.ok.qv _ _,I.os,I.bare,I.base,I.loc,I.cell,I.free,I.ja,λp hp=>I.pin p (by simpa using hp),I.hok,I.len,I.up⟩
theorem Inv.kT(ok:X.Ok)(I:Inv (X.qv (X.pn++pins) xe) ps σ H s):Inv X pins σ H s :=
 ⟨ok,I.os,I.bare,I.base,I.loc,I.cell,I.free,I.ja,λp hp=>I.pin p (List.mem_append_left _ hp),I.hok,I.len,I.up⟩
theorem Bb.kT{b:Addr}(k:Bb (X.qv (X.pn++pins) xe) ps H b):Bb X pins H b :=
 ⟨k.1,k.2.1,k.2.2.1,k.2.2.2.1,k.2.2.2.2.1,λp hp=>k.2.2.2.2.2 p (List.mem_append_left _ hp)⟩
theorem oB.to{h:Heap}{φ ψ:Addr->Prop}{ea:Addr}{cls:Value}{od:Option Addr}(x:oB h φ ea cls od)(m:∀b,φ b->ψ b):oB h ψ ea cls od:=by
 obtain⟨p,vs,sl,e,c2,T,oT,ts,a,b,c,d⟩:=x
 exact⟨m _ p,vs,sl,e,c2,T,oT,ts,a,b,m _ c,d⟩
end
abbrev TH:=Value->Option Addr->TS
def PH(X:Cx)(hs:List ExceptHandler)(th:TH):Prop :=
 ∀(pins:List (Addr×Obj)) (s:Shared) (σ:St) (H:Hp) (D:Ends) (ea:Addr) (cls:Value) (od:Option Addr),Inv X pins σ H s->oB s.heap (Bb X pins H) ea cls od->th cls od D σ H →
  wpAny (model X.prog X.w) X.A (handleBy (.ref ea) X.env hs) (SP X pins D) X.xe s
def Qk(tb:(St->XK)->TS)(th:TH):TS:=λD σ H=>tb (λσ' cls od H'=>th cls od D σ' H') D σ H
theorem ED{X:Cx}{body:List Stmt}{h₀:ExceptHandler}{hs:List ExceptHandler}{pos:Pos}{tb:(St->XK)->TS}{th:TH}(F:Fm X)
  (hb:∀(E:St->XK) (pn:List (Addr×Obj)) (xe:Value->Shared->Prop),Lets (X.qv pn xe) E->PassesOwn (model X.prog X.w) X.A X.env xe->vt (X.qv pn xe) body (tb E)) (hh:PH X (h₀::hs) th) :
  PS X (.Try body (h₀::hs) [] [] pos) (Qk tb th):=by
 intro pins s σ H D I h
 obtain⟨e0,r,L,hst,h0,hf⟩:=F
 refine wpAny_Try_except ?_
 generalize Rj:(λe s₁=>wpAny (model X.prog X.w) X.A (noteFrame e X.env) (λ_ s₂=>wpAny (model X.prog X.w) X.A (setFlight e none) (λ_ s₃=>wpAny (model X.prog X.w) X.A (handleBy e X.env (h₀::hs)) (SP X pins D) X.xe s₃) X.xe s₂) X.xe s₁)=xe
 have LX:Lets (X.qv (X.pn++pins) xe) λσ' cls od H'=>th cls od D σ' H':=by
  intro ps σ' H' s' ea cls od J x q
  show xe (.ref ea) s'
  subst Rj
  have fr:=J.ok.frames
  have sf:=J.stack
  refine p8 (s:=s') (e0:=e0) (r:=r) (by rw[←hst];exact fr) (by rw[←hst];exact sf) h0 hf x (λb hb=>J.Gd hb) λh1 n1 x1=>?_
  refine iI (fr:=frs (e0::r)) x1 λh2 n2 x2=>?_
  have HR:=n1.trans n2
  rw[←hst]at HR
  have J2:=J.noted HR
  exact hh pins _ σ' H' D ea cls od (J2.kT I.ok) (x2.to λb k=>k.kT) q
 have po:PassesOwn (model X.prog X.w) X.A X.env xe:=by
  subst Rj
  exact PassesOwn.looking
 refine wpAny_mono (hb _ _ xe LX po [] s σ H D I.qv h) (λf s1 q=>?_) λe s1 q=>?_
 ·cases f with
  |next =>
   obtain⟨σ',H',J,q⟩:=q
   exact wpAny_execs_nil ⟨σ',H',J.kT I.ok,q⟩
  |brk =>
   obtain⟨σ',H',J,q⟩:=q
   exact⟨σ',H',J.kT I.ok,q⟩
  |cont =>
   obtain⟨σ',H',J,q⟩:=q
   exact⟨σ',H',J.kT I.ok,q⟩
  |ret u =>
   obtain⟨v,σ',H',J,rv,q⟩:=q
   exact⟨v,σ',H',J.kT I.ok,rv,q⟩
 ·have q':xe e s1:=q
  subst Rj
  exact q'
abbrev Cx.within(X:Cx)(ea:Addr):Cx:={ X with A:=X.A.mark (some (.ref ea)),calm:=false,xe:=λ_ _=>False }
theorem Cx.Ok.within{X:Cx}(ok:X.Ok)(ea:Addr):(X.within ea).Ok :=
 ⟨ok.mod,ok.kind,ok.glob,ok.blt,ok.above,ok.inj,ok.has,ok.Hl,(λz=>nomatch z),ok.frames,ok.stk,ok.N8,ok.bs,ok.DQ,ok.AJ,ok.Dy,ok.oj,ok.F6,ok.tk⟩
section
variable{X:Cx}{pins:List (Addr×Obj)}{σ:St}{H:Hp}{s:Shared}{ea:Addr}
theorem Inv.within(I:Inv X pins σ H s)(ea:Addr):Inv (X.within ea) pins σ H s:=⟨I.ok.within ea,I.os,I.bare,I.base,I.loc,I.cell,I.free,I.ja,I.pin,I.hok,I.len,I.up⟩
theorem Inv.behind(ok:X.Ok)(I:Inv (X.within ea) pins σ H s):Inv X pins σ H s:=⟨ok,I.os,I.bare,I.base,I.loc,I.cell,I.free,I.ja,I.pin,I.hok,I.len,I.up⟩
end
def F9(ea:Addr)(cls:Value)(od:Option Addr):HO:=.ext λh=>∃vs sl,h.get? ea=some ⟨cls,od,.fields vs,sl⟩
def Ends.un(D:Ends)(i:Nat):Ends:={ nx:=λσ H=>D.nx (σ.set i none) H,rt:=D.rt,bk:=λσ H=>D.bk (σ.set i none) H,ct:=λσ H=>D.ct (σ.set i none) H }
theorem Inv.wJ{X:Cx}{pins:List (Addr×Obj)}{σ:St}{H:Hp}{s:Shared}{a:Addr}{o:HO}(I:Inv X pins σ H s)(k:Bb X pins H a)(new:b8 X.prog X.w (upd H a o) s.heap a o):Inv X pins σ (upd H a o) s:=by
 obtain⟨hn,k1,k2,k3,k4,k5⟩:=k
 refine⟨I.ok,I.os,I.bare,⟨I.base.keep,I.base.slot,λb ob q n hx=>?_,I.base.there,λb xs q=>?_,λb ob u q=>?_,λb ps q=>?_⟩,I.loc,I.cell,?_,λx c e=>?_,λp hp=>?_,λb u q=>?_,I.len,I.up⟩
 ·have ne:b≠a:=λz=>by
   rcases k3 with y|y
   ·rw[←z,q]at y;cases y
   ·exact hx (z▸y)
  rw[az ne]
  exact I.base.free b ob q n hx
 ·have q':=I.base.tups b xs q
  rw[az (bz q' hn)];exact q'
 ·have q':=I.base.pG b ob u q
  rw[az (bz q' hn)];exact q'
 ·obtain⟨more,q'⟩:=I.base.pO b ps q
  exact⟨more,by rw[az (bz q' hn)];exact q'⟩
 ·rw[az (Ne.symm k1)];exact I.free
 ·rw[az (k4 x c e)];exact I.ja x c e
 ·obtain⟨e,n,r⟩:=I.pin p hp
  exact⟨e,by rw[az (k5 p hp)];exact n,r⟩
 ·by_cases hb:b=a
  ·subst hb;rw[af]at q;cases q;exact new
  ·rw[az hb]at q
   exact(I.hok b u q).stay (λc v _ r=>r) (λc r=>by rw[az (bz r hn)];exact r) λc xs r=>by rw[az (bz r hn)];exact r
structure XB(K:PySem.W.Frag)(D:Addr):Prop where
 hd:PySem.W.hasDictIn K D=true
 ty:PySem.W.typeIn K (.ref D)=some (.type "type")
 be:PySem.W.mroIn K D (.type "BaseException")=some true
theorem we{M:Model}{A:Around}{E:Value->Shared->Prop}{s:Shared}{K:PySem.W.Frag}{Q:Bool->Shared->Prop}{ea C D:Addr}{o:Obj}{b:Bool}(k:K.In s.heap)(he:s.heap.get? ea=some o)(hc:o.cls= .ref C)
  (h0:PySem.W.subIn K (.ref C) (.ref D)=some b) (h2:XB K D) (q:Q b s):wpAny M A (excMatches (.ref ea) (.ref D)) Q E s:=by
 have h1:PySem.W.kitCls K (.ref C) (.ref D)=some b:=by
  obtain⟨cd,hcd,_⟩:=PySem.W.any_some h2.hd
  show(if((PySem.W.clsIn K D).isSome&&PySem.W.typeIn K (.ref D)==some (.type "type"))=true then PySem.W.subIn K (.ref C) (.ref D)else none)=some b
  rw[if_pos (by rw[hcd,h2.ty];simp)]
  exact h0
 obtain⟨lt,li,ls⟩:=PySem.W.kit_cls (M:=M) k h1
 have lb:=PySem.W.looks_mroIn (M:=M) k h2.be
 have le:PySem.W.Looks M s.heap (typeOf (.ref ea)) (.ref C):=by
  intro A' Q' E' s' kk qq
  unfold typeOf
  exact wpAny_bind (wpAny_loadPart (kk _ _ he) (wpAny_pure (by rw[hc];exact qq)))
 have l0:PySem.W.Looks M s.heap (isInstance (.ref D) (.type "tuple")) false:=lt.andThen (PySem.W.Looks.of_pure tc_notTuple)
 have l1:PySem.W.Looks M s.heap (isExcClass (.ref D)) true:=by
  unfold isExcClass
  exact li.andThen lb
 unfold excMatches
 refine wpAny_bind (l0.here (wpAny_bind ?_))
 simp only[Bool.false_eq_true,if_false]
 refine wpAny_pure ?_
 rw[List.forIn_cons]
 refine wpAny_bind (wpAny_bind (wpAny_bind (l1.here ?_)))
 simp only[Bool.not_true,Bool.false_eq_true,if_false]
 refine wpAny_pure (wpAny_pure ?_)
 refine wpAny_bind (le.here (wpAny_bind ?_))
 rw[List.forIn_cons]
 refine wpAny_bind (wpAny_bind (ls.here ?_))
 cases b with
 |true =>
  simp only[if_true]
  exact wpAny_pure (wpAny_pure (wpAny_pure q))
 |false =>
  simp only[Bool.false_eq_true,if_false]
  exact wpAny_pure (wpAny_pure (wpAny_pure q))
theorem name_goes{X:Cx}{pins:List (Addr×Obj)}{σ:St}{H:Hp}{s:Shared}{M:Model}{A:Around}{E:Value->Shared->Prop}{Q:Unit->Shared->Prop}{i:Nat}{n:Str}{pos:Pos}(I:Inv X pins σ H s)(hN:X.N.Nodup)(hi:X.N[i]? =some n)(hl:X.env.scope.names.lookup n=some .local)
  (h:∀s',Inv X pins (σ.set i none) H s'->Q () s'):wpAny M A (do bindName X.env n .none;unbindBehindTheSuite X.env n pos) Q E s:=by
 obtain⟨m,hn,hlk⟩:=I.loc
 refine wpAny_nameGoes_keeps hl hn (by rw[I.ok.kind];rfl) λh' v hn' sb=>h _ ?_
 have cellK:∀x c,X.env.cells.lookup x=some c->∀v,s.heap.IsCell c v->h'.IsCell c v:=λx c e v ⟨o,ho,hd⟩=>⟨o,(sb.2 c (I.Ip x c e)).trans ho,hd⟩
 refine⟨I.ok,I.os,I.bare,I.base.same λb o e=>sb.2 b (Nat.ne_of_lt (Nat.lt_of_lt_of_le (Heap.lt_size e) I.ok.above)),⟨_,hn',λj y u e1 e2 e3=>?_⟩,λx c e=>?_,I.free,I.ja,λp hp=>?_,I.hok.but I.free sb,by rw[List.length_set];exact I.len,Nat.le_succ_of_le I.up⟩
 ·have ji:i≠j:=λz=>by
   subst z
   rw[List.getElem?_set_self (by rw[I.len];exact(List.getElem?_eq_some_iff.mp hi).1)]at e2
   cases e2
  rw[List.getElem?_set_ne ji]at e2
  obtain⟨w,rv,l⟩:=hlk j y u e1 e2 e3
  refine⟨w,rv,?_⟩
  rcases l with⟨k1,k2⟩|⟨k,c,e,z⟩
  ·refine .inl ⟨k1,?_⟩
   have ne:y≠n:=λz=>ji (t7 hN hi (z▸e1))
   show(if y=n then v else m y)=some w
   rw[if_neg ne]
   exact k2
  ·exact .inr ⟨k,c,e,cellK y c e _ z⟩
 ·obtain⟨v,z⟩:=I.cell x c e
  exact⟨v,cellK x c e v z⟩
 ·obtain⟨e,hh,ne,r⟩:=I.pin p hp
  exact⟨(sb.2 _ ne).trans e,hh,ne,r⟩
def UN(K:PySem.W.Frag)(C:Addr)(i:Nat)(ts:TS)(th:TH):TH:=λcls od D σ H=>∃Ce b,cls= .ref Ce/\PySem.W.subIn K (.ref Ce) (.ref C)=some b ∧
 if b=true then ∀ea,H ea=none->ts (D.un i) (σ.set i (some (.ref ea))) (upd H ea (F9 ea cls od))else th cls od D σ H
theorem LP{X:Cx}{i:Nat}{n x:Str}{C:Addr}{b₀:Stmt}{suite:List Stmt}{np pos:Pos}{rest:List ExceptHandler}{ts:TS}{th:TH}(hN:X.N.Nodup)(hi:X.N[i]? =some n)(hl:X.env.scope.names.lookup n=some .local)(hg:Gl X x)(hm:X.mg x=some (.ref C))
  (A0:XB X.K C) (Vx:∀ea,vt (X.within ea) (b₀::suite) ts) (hr:PH X rest th) (hdb:(x==("__debug__" :Str))=false:=by decide) :
  PH X (.ExceptHandler (some (.Name x np)) (some n) (b₀::suite) pos::rest) (UN X.K C i ts th):=by
 intro pins s σ H D ea cls od I x h
 obtain⟨Ce,b,rfl,hk,h⟩:=h
 obtain⟨pe,vs,sl,he,hT⟩:=id x
 refine wpAny_handleBy_cons (codeAny_handlers_test (jA (X:=X.within ea) (I.within ea) hg hm ?_ hdb)) (by intro q;cases q)
 refine we I.kK he rfl hk A0 ?_
 cases b with
 |false=>exact hr pins s σ H D ea _ od I x h
 |true =>
  refine codeAny_handlers_suite_as ?_
  refine iI (fr:=frs X.stack) x λh1 n1 x1=>?_
  have I1:=I.noted n1
  obtain⟨LQ,Oq,Ls,Kf,_⟩:=id x1
  have I2:Inv X pins σ (upd H ea (F9 ea (.ref Ce) od)) { s with heap:=h1 }:=I1.wJ LQ ⟨⟨Oq,Ls,Kf⟩,⟨_,Kf⟩,λh1 h2 ⟨v,s',e⟩ k=>⟨v,s',k _ e⟩⟩
  refine mQ (X:=X.within ea) (I2.within ea) hN hi (.inl hl) (v:=.ref ea) rfl (λs2 I3=>?_) (.inr hl)
  have z:=Vx ea pins s2 _ _ (D.un i) I3 (h ea LQ.1)
  refine wpAny_mono z (λf s3 q=>?_) λ_ _ z=>False.elim z
  cases f with
  |next =>
   obtain⟨σ',H',J,q⟩:=q
   exact name_goes (J.behind I.ok) hN hi hl λs4 J4=>⟨_,_,J4,q⟩
  |brk =>
   obtain⟨σ',H',J,q⟩:=q
   exact name_goes (J.behind I.ok) hN hi hl λs4 J4=>⟨_,_,J4,q⟩
  |cont =>
   obtain⟨σ',H',J,q⟩:=q
   exact name_goes (J.behind I.ok) hN hi hl λs4 J4=>⟨_,_,J4,q⟩
  |ret u =>
   obtain⟨v,σ',H',J,rv,q⟩:=q
   exact name_goes (J.behind I.ok) hN hi hl λs4 J4=>⟨v,_,_,J4,rv,q⟩
theorem EG{X:Cx}:PH X [] λ_ _ _ _ _=>False:=λ_ _ _ _ _ _ _ _ _ _ h=>False.elim h
def Jm(sp:Sp)(uR:List V)(E:St->XK)(t:TA):TE:=λσ H Q=>t σ H λvs H1=>sp (vs++uR) H1 Q (E σ)
section
variable{X:Cx}{k:Nat}{f C:Addr}{fd:FuncData}{ps:List Str}{sp:Sp}{uR:List V}{ds:List Value}{E:St->XK}{x:Str}{p pos:Pos}{e:Expr}{es:List Expr}{t:TA}
theorem yT(F:aW X.prog X.w X.K X.mg X.base (sS X.prog X.w) k f fd ps sp)(hr:jd k X.A)(hg:Gl X x)(hm:X.mg x=some (.ref f))(hk:PySem.W.keepIn X.K (.ref f)=true)(hb:Binds X.K fd ps ds)(hd:Vals uR ds)(LX:Lets X E)
  (ha:PA X (e::es) t) (hdb:(x==("__debug__" :Str))=false:=by decide) (he:starEach (e::es) X.env=(false,eval e X.env)::starEach es X.env:=by rfl) (hpl:(backTo pos (starEach es X.env)).any (·.1)=false:=by rfl) :
  PE X (.Call (.Name x p) (e::es) [] pos) (Jm sp uR E t):=by
 intro pins s σ H Q I h
 refine wpAny_Call_Name_kw (jA I hg hm ?_ hdb)
 refine PySem.W.callWith_K (h₀:=X.base) I.ok.mod.E8 hk (fK (ha pos pins s σ H _ I h) λus s1 ⟨vs,H1,I1,r,q⟩=>⟨I1.kK,?_⟩) he hpl
 have r2:Vals (vs++uR) (us++ds):=r.append hd
 have hl:(us++ds).length=ps.length:=by rw[←r2.length];exact F.len _ _ _ _ q
 refine wpAny_call (codeAny_mono (F.run X.A X.stack s1 H1 ⟨us,[]⟩ (us++ds) (vs++uR) Q (E σ) hr I1.FE (hb s1 us I1.kK hl) r2 q) λrr s' hq=>?_)
 cases rr with
 |error e=>exact LX.pass I1 hq
 |ok fl =>
  cases fl with
  |ret u=>exact I1.after hq
  |next=>exact False.elim hq
  |brk=>exact False.elim hq
  |cont=>exact False.elim hq
end
end L2
namespace L2
open PySem PySem.Spec PyProof.Rows
end L2
namespace L2
open PySem PySem.Spec PyProof.Rows
section
variable{X:Cx}
abbrev TJ:=St->Hp->Str->(Str->Hp->Prop)->Prop
def PJ(X:Cx)(es:List Expr)(tj:TJ):Prop:=∀(pins:List (Addr×Obj)) (s:Shared) (σ:St) (H:Hp) (acc:Str) (R:Str->Hp->Prop),Inv X pins σ H s->tj σ H acc R →
 Joins (model X.prog X.w) X.A X.xe (evalEach es X.env) acc (λout s1=>out.length<=sizeLine/\∃H1,Inv X pins σ H1 s1/\R out H1) s
theorem EE:PJ X [] (λ_ H acc R=>acc.length<=sizeLine/\R acc H):=λ_ _ _ H _ _ I h=>⟨h.1,H,I,h.2⟩
theorem sN{e:Expr}{es:List Expr}{te:TE}{tj:TJ}(he:PE X e te)(hr:PJ X es tj)(hx:evalEach (e::es) X.env=eval e X.env::evalEach es X.env:=by rfl):
  PJ X (e::es) (λσ H acc R=>te σ H λv H1=>∃y,v= .str y/\(acc++y).length<=sizeLine/\tj σ H1 (acc++y) R):=by
 intro pins s σ H acc R I h
 rw[hx]
 refine fK (he pins s σ H _ I h) λu s1 ⟨v,H1,I1,r,y,e1,hl,q⟩=>?_
 subst e1
 obtain⟨t,rfl⟩:=r
 exact⟨y,t,rfl,hl,hr pins s1 σ H1 _ R I1 q⟩
theorem vV{M:Model}{A:Around}{E:Value->Shared->Prop}:∀{parts:List (Sem Value)} {acc:Str} {Q Q':Str->Shared->Prop} {s:Shared},Joins M A E parts acc Q s->(∀out s1,Q out s1->Q' out s1)->Joins M A E parts acc Q' s
 |[],_,_,_,_,h,k=>k _ _ h
 |_::_,_,_,_,_,h,k=>fK h λ_ _ ⟨y,t,e,hl,q⟩=>⟨y,t,e,hl,vV q k⟩
theorem BP{v₁ v₂:Expr}{rest:List Expr}{pos:Pos}{tj:TJ}(h:PJ X (v₁::v₂::rest) tj):PE X (.JoinedStr (v₁::v₂::rest) pos) (λσ H Q=>tj σ H Str.empty λout H1=>Q (.str out) H1):=by
 intro pins s σ H Q I q
 refine wpAny_JoinedStr (vV (h pins s σ H Str.empty _ I q) λout s1 ⟨hl,H1,I1,q1⟩=>⟨hl,.str out,H1,I1.tok _,⟨_,rfl⟩,q1⟩)
theorem EJ{value:Expr}{pos:Pos}{te:TE}(he:PE X value te):PE X (.FormattedValue value (-1) none pos) (λσ H Q=>te σ H λv H1=>∃i:Int,v= .int i/\i.natAbs.log2<1920/\Q (.str (Str.ofString (toString i))) H1):=by
 intro pins s σ H Q I h
 refine wpAny_FormattedValue_plain (fK (he pins s σ H _ I h) λu s1 ⟨v,H1,I1,r,i,e,hl,q⟩=>?_)
 subst e
 obtain⟨t,rfl⟩:=r
 exact wpAny_formatField_int hl ⟨.str (Str.ofString (toString i)),H1,I1.tok _ (by show s1.toks<=_;omega),⟨_,rfl⟩,q⟩
end
structure KH(K:PySem.W.Frag)(C:Addr):Prop where
 ga:PySem.W.findIn K (.ref C) "__getattribute__" =some (some (.builtin "BaseException.__getattribute__"))
 gn:PySem.W.findIn K (.ref C) "__getattr__" =some none
 hd:PySem.W.hasDictIn K C=true
 ha:PySem.W.findIn K (.ref C) "__class__" =some (some (.builtin "object.__class__"))
 hn:PySem.W.specialIn K (.builtin "object.__class__") "__get__" =some (some (.builtin "getset_descriptor.__get__"))
 htk:PySem.W.takesIn K (.builtin "object.__class__")=some true
 hm:PySem.W.mroIn K C (.type "object")=some true
 hb:PySem.W.mroIn K C (.type "BaseException")=some true
theorem Dz{prog:Program}{w:World}{A:Around}{E:Value->Shared->Prop}{s:Shared}{K:PySem.W.Frag}{x C:Addr}{ox:Obj}{od:Option Obj}{Q:Option Value->Shared->Prop}(Z:KH K C)(k:K.In s.heap)(I:PySem.W.InstAt s.heap x ox C od)
  (h:Q (some (.ref C)) { s with toks:=s.toks+1 }):wpAny (model prog w) A (getAttr? (.ref x) "__class__") Q E s:=by
 obtain⟨hh,g,d,t,os⟩:=s
 have L0:=I.type (M:=model prog w)
 have L1:=PySem.W.looks_findIn (M:=model prog w) k Z.ga
 have L2:=PySem.W.looks_findIn (M:=model prog w) k Z.gn
 have LB:=PySem.W.looks_mroIn (M:=model prog w) k Z.hb
 have hf:PySem.W.findObj K C od "__class__" =some (.bind (.builtin "getset_descriptor.__get__") (.builtin "object.__class__")):=by
  obtain⟨cd,hc,_⟩:=PySem.W.any_some Z.hd
  unfold PySem.W.findObj
  rw[hc,Option.bind_some,Z.ha,Option.bind_some]
  simp[Z.hn,Z.htk]
 have LF:=PySem.W.looks_find (M:=model prog w) k I hf
 unfold getAttr? getAttrBy? getAttrBy
 refine wpAny_bind (wpAny_mkText (wpAny_bind (wpAny_attempt (wpAny_holding (wpAny_bind (L0.at (wpAny_bind (L1.at ?_))))))))
 show wpAny _ _ (getAttrByItsOwn _ _ _ _ _ _) _ _ _
 unfold getAttrByItsOwn hookBefore
 refine wpAny_bind (L2.at ?_)
 refine wpAny_bind (wpAny_attempt (wpAny_holding ?_))
 show wpAny _ _ (boundAndCalled _ _ _) _ _ _
 unfold boundAndCalled
 refine wpAny_bind (wpAny_of_eq (PySem.F.attr_ValueError.ga.bind (.ref x)) ?_)
 show wpAny _ _ (call (.builtin "BaseException.__getattribute__") [.ref x,.str "__class__" t]) _ _ _
 refine wpAny_call (codeAny_call_builtin PySem.F.attr_ValueError.ga.plain PySem.F.entry_bexc_ga ?_)
 have c1:builtinKind "BaseException.__getattribute__" =some .slot:=by decide +kernel
 have c2:splitId "BaseException.__getattribute__" =some ("BaseException","__getattribute__"):=by decide +kernel
 have c3:=PySem.F.args_bexc_ga (.ref x) (.str "__class__" t)
 simp only[checkBuiltinCall,c1,c2]
 refine wpAny_bind (wpAny_bind (L0.at (LB.at ?_)))
 simp only[Bool.not_true,Bool.false_eq_true,if_false]
 unfold argsOk at c3
 refine wpAny_of_eq c3 ?_
 unfold Builtin.«object.__getattribute__»
 refine wpAny_bind (wpAny_pure (wpAny_bind (wpAny_pure (wpAny_bind (L0.at (wpAny_bind (LF.at ?_)))))))
 show wpAny _ _ (holding [.builtin "object.__class__"] (call (.builtin "getset_descriptor.__get__") [.builtin "object.__class__",.ref x,.ref C]) >>= ret) _ _ _
 refine wpAny_bind (wpAny_holding (wpAny_call (PySem.W.class_get (ox:=ox) (od:=od) k I Z.hm ?_)))
 refine wpAny_pure ?_
 show wpAny _ _ (handedOut (.ref C)) _ _ _
 exact PySem.W.handed_on rfl (wpAny_pure h)
end L2
namespace L2
open PySem PySem.Spec PyProof.Rows
theorem qa{K:PySem.W.Frag}{x C:Addr}{ox:Obj}{od:Option Obj}(Z:KH K C):PySem.W.KitX K (.ref x) (.ref C) (λh=>PySem.W.InstAt h x ox C od) where
 ty:=λ_ _ _ I=>I.type
 it:=λ_ _ k _=>by
  obtain⟨cd,hcd,_⟩:=PySem.W.any_some Z.hd
  unfold PySem.W.clsIn at hcd
  split at hcd
  ·rename_i c1 d1 Wt Ls hob
   intro A1 Q1 E1 s1 kk q
   unfold isType loadHead
   exact wpAny_bind (wpAny_loadPart (kk _ _ (k _ _ hob)) (wpAny_pure q))
  ·cases hcd
 ne:=λh tp dd its n sl k htp=>by
  obtain⟨cd,hcd,_⟩:=PySem.W.any_some Z.hd
  refine Bool.eq_false_iff.mpr λq=>?_
  have e:=Value.ref.inj (beq_iff_eq.mp q)
  subst e
  unfold PySem.W.clsIn at hcd
  split at hcd
  ·rename_i c1 d1 Wt Ls hob
   have z:=(k _ _ hob).symm.trans htp
   cases z
  ·cases hcd
 ca:=λk I q=>Dz Z k I q
end L2
namespace GP
open PySem L2 iX
theorem BW(val:Nat->Str)(i:Nat):∀j,i<j->(met val j).any (·==val i)=true
 | 0,h=>absurd h (Nat.not_lt_zero _)
 |j+1,h=>by
  rw[jJ,lW]
  by_cases e:i=j
  ·subst e;simp
  ·rw[BW val i j (by omega)];rfl
theorem zj(val:Nat->Str)(i:Nat):∀d,(met val (i+d)).length<=(met val i).length+d
 | 0=>Nat.le_refl _
 |d+1=>by
  rw[show i+(d+1)=(i+d)+1 by omega,jJ,iF]
  have ih:=zj val i d
  split<;>omega
theorem C9{val:Nat->Str}{i j n:Nat}(hij:i<j)(hj:j<n)(e:val i=val j):(met val n).length<n:=by
 have h1:(met val (j+1)).length=(met val j).length:=by
  rw[jJ,iF,if_pos (by rw[←e];exact BW val i j hij)]
 have h2:=kZ val j
 have h3:=zj val (j+1) (n-(j+1))
 rw[show j+1+(n-(j+1))=n by omega]at h3
 omega
theorem Dc{x:Str}(h:(met (gK x) x.cps.size).length=x.cps.size):x.cps.toList.Nodup:=by
 refine List.pairwise_iff_getElem.mpr λi j hi hj hij z=>?_
 have hj':j<x.cps.size:=by simpa using hj
 have hi':i<x.cps.size:=by simpa using hi
 have q:=C9 (val:=gK x) hij hj' (by
  unfold gK
  have e1:x.cps.getD i 0=x.cps.toList[i]:=by simp[hi']
  have e2:x.cps.getD j 0=x.cps.toList[j]:=by simp[hj']
  rw[e1,e2,z])
 omega
def Lb(x:Str):Prop:=x.cps.size<=100/\∀c∈x.cps.toList,c<128
def oF(C:Addr):Sp:=λvs H Q E=>∃x:Str,vs=[.str x]/\Lb x/\(ig x->∀H',ai H H'->Q .gx H')/\(¬ig x->∀H',ai H H'->E (.ref C) none H')
end GP
namespace L2
open PySem PySem.Spec PyProof.Rows
theorem Jp{X:Cx}:Of X (λx lo hi H Q=>∃y,x= .str y/\y.length<=sizeLine/\Q (.str (Txt.slice y lo hi)) H):=by
 intro pins s σ H x v vl vu lo hi sl Q I rx hs pl pu h
 obtain⟨y,rfl,hz,q⟩:=h
 obtain⟨t,rfl⟩:=rx
 refine⟨"str",_,PySem.F.slot_str_getitem.lookup,typeIs_str _ _ _,?_⟩
 have fin:(Txt.slice y lo hi).length<=sizeLine/\∀t' k,s.toks<=k->EP X pins σ Q (.str (Txt.slice y lo hi) t') { s with toks:=k }:=⟨Nat.le_trans (Txt.slice_le y _ _) hz,λt' k hk=>⟨.str (Txt.slice y lo hi),H,I.tok k hk,⟨_,rfl⟩,q⟩⟩
 refine TK.b9 (Nat.le_refl s.toks) ?_
 cases pl with
 |none =>
  cases pu with
  |none=>exact wpAny_getItem_str_slice (l:=none) (u:=none) (st:=none) hs rfl (post_val_or_str fin)
  |int j u=>exact wpAny_getItem_str_slice (l:=none) (u:=some (j,u)) (st:=none) hs rfl (post_val_or_str fin)
 |int i u =>
  cases pu with
  |none=>exact wpAny_getItem_str_slice (l:=some (i,u)) (u:=none) (st:=none) hs rfl (post_val_or_str fin)
  |int j u'=>exact wpAny_getItem_str_slice (l:=some (i,u)) (u:=some (j,u')) (st:=none) hs rfl (post_val_or_str fin)
end L2
namespace GP
open PySem L2 iX
def se(K:PySem.W.Frag)(H:Hp)(d:Addr)(row:List aS):Prop:=∃ps:List Addr,H d=some (.lst (ps.map V.ref))/\Paired (eB K H) ps row
theorem se.same{K:PySem.W.Frag}{H H':Hp}{d:Addr}{row:List aS}(e:ai H H')(h:se K H d row):se K H' d row:=by
 obtain⟨ps,a,b⟩:=h
 exact⟨ps,e _ _ a,Paired.iW b λ_ _ z=>z.same e⟩
theorem qK{α β:Type}{F:α->β->Prop}:∀{l₁:List α} {l₂:List β},l₁.length=l₂.length->(∀(i:Nat) a b,l₁[i]? =some a->l₂[i]? =some b->F a b)->Paired F l₁ l₂
 |[],[],_,_=>.nil
 |[],_::_,h,_=>nomatch h
 |_::_,[],h,_=>nomatch h
 |a::l₁,b::l₂,h,k=>.cons (k 0 a b rfl rfl) (qK (Nat.succ.inj h) λi x y e1 e2=>k (i+1) x y (by simpa using e1) (by simpa using e2))
theorem GL{K:PySem.W.Frag}{H:Hp}{l:Addr}{ds:List Addr}{rows:List (List aS)}(hl:H l=some (.lst (ds.map V.ref)))(h:Paired (se K H) ds rows):Bd K H (.lst l) rows:=by
 refine⟨λx z=>(by cases z),ds.map Cp.lst,λd hd x z=>?_,?_,?_⟩
 ·obtain⟨q,_,e⟩:=List.mem_map.mp hd
  rw[←e]at z
  cases z
 ·show bX K H l _
  rw[List.map_map]
  exact bX.of hl
 ·have go:∀{ds:List Addr} {rows:List (List aS)},Paired (se K H) ds rows->Paired (gH K H) (ds.map Cp.lst) rows:=by
   intro ds rows h
   induction h with
   |nil=>exact .nil
   |cons r _ ih =>
    obtain⟨ps,a,b⟩:=r
    exact .cons ⟨ps,bX.of a,b⟩ ih
  exact go h
theorem nH{xs:List V}{n:Nat}(h:n<=xs.length):qY xs (some (n:Int)) none=xs.drop n:=by
 unfold qY
 rw[HT.Er,HT.wY,Nat.min_eq_left h,List.take_of_length_le]
 rw[List.length_drop]
 exact Nat.le_refl _
end GP
namespace L2
open PySem PySem.Spec PyProof.Rows
section
variable{prog:Program}{w:World}{A:Around}{E:Value->Shared->Prop}{h:Heap}{gs:Array GenState}{dr:Drawn}{tk:Nat}{os:OsState}
variable{nm qn:Str}{C N:Addr}{bs tl bmB bmN:List Value}{hdct:Bool}{sn:List Str}{sub:List Value}{ab:Bool}{col:Option Bool}{dd:Option Addr}{k0 k1 k2 k3 k5:Option Value}{B Bn newId nid initId inN:String}
theorem tu{mN:Str->Option Value}{rest:List Value}{fI:Addr}{oI:Obj}{Q:Fin->Shared->Prop}(Fn:ExcBaseFacts Bn newId inN bmN)(hBn:bmB.contains (.type Bn)=true)(FB:ExcBaseFacts B nid initId bmB)(T:OwnTail h bmB tl)
  (hob:h.get? C=some (excClassObj nm qn C N bs tl hdct sn sub ab col dd k0 k1 k2 k3 k5 newId)) (hns:h.Ns N mN) (Kd:mN "__init__" =some (.ref fI)) (hfo:h.get? fI=some oI) (hfc:oI.cls= .type "function")
  (hq:∀h' e,Heap.MadeExcOf h h' e (.ref C) rest->wpAny (model prog w) A (call (.ref fI) (.ref e::rest)) (λr s'=>r= .none/\Q (.done (.ret (.ref e))) s') E ⟨h',gs,dr,tk,os⟩) (hz:rest.length<=sizeLine) :
  wpAny (model prog w) A (Builtin.«type.__call__» ⟨.ref C::rest,[]⟩) Q E ⟨h,gs,dr,tk,os⟩:=by
 repeat (first|with_reducible refine wpAny_loadPart_at hob ?_|with_reducible refine wpAny_madeBy_exc hob ?_|wp_step)
 refine codeAny_call_builtin_code (Code.quiet_builtin _ Fn.quiet) (wpAny_check_new_subU Fn hBn T hob ?_)
 refine codeAny_exc_new_subU Fn hBn FB T hob ?_ hz
 show wpAny _ _ _ _ _ _
 have kp:∀b o,h.get? b=some o->((h.push { cls:=.type "tuple",data:=.seq rest.toArray }).push { cls:=.ref C,data:=.fields #[.ref h.objs.size,.none,.none,.none,.bool false,.none] }).get? b=some o:=λb o e=>Heap.get?_push_of_some _ (Heap.get?_push_of_some _ e)
 have Mx:=kp _ _ hob
 have RN:=kp _ _ hfo
 have RG:=hns.keeps kp
 have T1:=T.keeps kp
 have Ij:((h.push { cls:=.type "tuple",data:=.seq rest.toArray }).push { cls:=.ref C,data:=.fields #[.ref h.objs.size,.none,.none,.none,.bool false,.none] }).get? (h.objs.size+1)=some { cls:=.ref C,data:=.fields #[.ref h.objs.size,.none,.none,.none,.bool false,.none] }:=by heap_get
 have hself:(Value.ref C::tl).contains (.ref C)=true:=by simp
 unfold isInstance
 repeat (first|with_reducible refine wpAny_loadPart_at Ij ?_|(with_reducible refine wpAny_isSubtype_exc Mx ?_;rw[hself])|wp_step)
 show wpAny _ _ (typeLookup (.ref C) _) _ _ _
 refine wpAny_typeLookup_tail Mx RG T1 FB.mroIs FB.init.lookup ?_
 rw[Kd]
 refine wpAny_holding (wpAny_bind ?_)
 unfold bindSpecial
 refine wpAny_bind (wpAny_typeOf (T:= "function") ⟨_,RN,hfc⟩ ?_)
 rw[if_pos (by decide)]
 have made:Heap.MadeExcOf h ((h.push { cls:=.type "tuple",data:=.seq rest.toArray }).push { cls:=.ref C,data:=.fields #[.ref h.objs.size,.none,.none,.none,.bool false,.none] }) (h.objs.size+1) (.ref C) rest :=
  ⟨kp,Heap.get?_none_of_le (Nat.le_succ _),h.objs.size,Ij,Heap.get?_none_of_le (Nat.le_refl _),Heap.get?_push_of_some _ (Heap.get?_push_at rfl rfl)⟩
 refine wpAny_pure (wpAny_bind (wpAny_mono (hq _ _ made) (λr s' hr=>?_) λ_ _ x=>x))
 obtain⟨rfl,hQ⟩:=hr
 wp_walk
 exact hQ
theorem wu{mN:Str->Option Value}{rest:List Value}{fI:Addr}{oI:Obj}{Q:Value->Shared->Prop}(Fn:ExcBaseFacts Bn newId inN bmN)(hBn:bmB.contains (.type Bn)=true)(FB:ExcBaseFacts B nid initId bmB)(T:OwnTail h bmB tl)
  (hob:h.get? C=some (excClassObj nm qn C N bs tl hdct sn sub ab col dd k0 k1 k2 k3 k5 newId)) (hns:h.Ns N mN) (Kd:mN "__init__" =some (.ref fI)) (hfo:h.get? fI=some oI) (hfc:oI.cls= .type "function")
  (hq:∀h' e,Heap.MadeExcOf h h' e (.ref C) rest->wpAny (model prog w) (A.under (.builtin "type.__call__" ⟨.ref C::rest,[]⟩)) (call (.ref fI) (.ref e::rest)) (λr s'=>r= .none/\Q (.ref e) s') E ⟨h',gs,dr,tk,os⟩) (hz:rest.length<=sizeLine) :
  wpAny (model prog w) A (call (.ref C) rest) Q E ⟨h,gs,dr,tk,os⟩:=by
 have l1:=tc_lookup
 have l2:=tc_bind (.ref C)
 have hTy:(⟨h,gs,dr,tk,os⟩:Shared).TypeIs (.ref C) "type" :=⟨_,hob,rfl⟩
 refine wpAny_call (codeAny_of_tree ?_)
 show wpAny _ _ (callAny (.ref C) _) _ _ _
 repeat (any_goals (first|assumption|with_reducible refine wpAny_loadPart_at hob ?_|wp_step))
 refine⟨rfl,codeAny_call_builtin_at (Code.quiet_builtin _ (by decide +kernel)) entry_typeCall (wpAny_check_type_call_sub hob (tu Fn hBn FB T hob hns Kd hfo hfc (λh' e hm=>?_) hz))⟩
 exact hq h' e hm
end
end L2
namespace L2
open PySem PySem.Spec PyProof.Rows
def newX(e C:Addr)(od:Option Addr):HO:=.ext λh=>∃vs sl,h.get? e=some ⟨.ref C,od,.fields vs,sl⟩/\vs[1]? =some .none/\vs[2]? =some .none/\4<vs.size
def vB(dx:Addr)(fs:List (Str×V)):HO:=.ext λh=>∃mA,h.Ns1 dx mA/\(∀f,pK (fs.lookup f) (mA f))/\PySem.Within mA (fs.map (·.1))
section
variable{P:Program}{w:World}{H:Hp}{h:Heap}
theorem sO{e C:Addr}{od:Option Addr}{vs:Array Value}{sl:Array (Option Value)}(he:h.get? e=some ⟨.ref C,od,.fields vs,sl⟩)(h1:vs[1]? =some .none/\vs[2]? =some .none/\4<vs.size):b8 P w H h e (newX e C od) :=
 ⟨⟨vs,sl,he,h1⟩,⟨_,he⟩,λ_ _ ⟨v,s,e,z⟩ k=>⟨v,s,k _ e,z⟩⟩
theorem Aa{dx:Addr}{fs:List (Str×V)}{mA:Str->Option Value}(n:h.Ns1 dx mA)(r:∀f,pK (fs.lookup f) (mA f))(wi:PySem.Within mA (fs.map (·.1))):b8 P w H h dx (vB dx fs) :=
 ⟨⟨mA,n,r,wi⟩,(let ⟨o,_,_,e,_⟩:=n;⟨o,e⟩),λ_ _ ⟨m,n,r,wi⟩ k=>⟨m,n.at k,r,wi⟩⟩
end
def del(H:Hp)(e:Addr):Hp:=λb=>if b=e then none else H b
theorem iJ{H:Hp}{e b:Addr}(h:b≠e):del H e b=H b:=by unfold del;rw[if_neg h]
theorem uG{H:Hp}{e:Addr}:del H e e=none:=by unfold del;rw[if_pos rfl]
theorem nG{H:Hp}{e b:Addr}(h:H b=none):del H e b=none:=by unfold del;split<;>first|rfl|exact h
theorem IB{H:Hp}{a:Addr}{o:HO}(h:H a=some o):upd H a o=H:=by
 funext b
 unfold upd
 split
 ·rename_i z;rw[z,h]
 ·rfl
section
variable{X:Cx}{pins:List (Addr×Obj)}{σ:St}{H:Hp}{s:Shared}
theorem Inv.drop{e:Addr}{φ:Heap->Prop}(I:Inv X pins σ H s)(he:H e=some (.ext φ)):Inv X pins σ (del H e) s:=by
 have ne:∀{b:Addr} {o:HO},H b=some o->(∀ ψ,o≠ .ext ψ)->b≠e:=λ{b o} hb n z=>by
  subst z
  rw[he]at hb
  exact n _ (Option.some.inj hb).symm
 refine⟨I.ok,I.os,I.bare,⟨I.base.keep,I.base.slot,λb ob q n hx=>nG (I.base.free b ob q n hx),I.base.there,λb xs q=>?_,λb ob u q=>?_,λb ps q=>?_⟩,I.loc,I.cell,nG I.free,λx c q=>nG (I.ja x c q),λp hp=>?_,λb u q=>?_,I.len,I.up⟩
 ·have q':=I.base.tups b xs q
  rw[iJ (ne q' λψ z=>by cases z)];exact q'
 ·have q':=I.base.pG b ob u q
  rw[iJ (ne q' λψ z=>by cases z)];exact q'
 ·obtain⟨more,q'⟩:=I.base.pO b ps q
  exact⟨more,by rw[iJ (ne q' λψ z=>by cases z)];exact q'⟩
 ·obtain⟨a,n,r⟩:=I.pin p hp
  exact⟨a,nG n,r⟩
 ·have hb:b≠e:=λz=>by rw[z,uG]at q;cases q
  rw[iJ hb]at q
  exact(I.hok b u q).stay (λc v _ r=>r) (λc r=>by rw[iJ (ne r λψ z=>by cases z)];exact r) λc xs r=>by rw[iJ (ne r λψ z=>by cases z)];exact r
end
section
variable{M:Model}{A:Around}{E:Value->Shared->Prop}{env:Env}
variable{nm q:Str}{C N:Addr}{bs bm:List Value}{hdct:Bool}{sn:List Str}{sub:List Value}{ab:Bool}{col:Option Bool}{dd:Option Addr}{k0 k1 k2 k3 k5:Option Value}{newId:String}
theorem Av {s:Shared} {x:Sem Value} {Q:Flow->Shared->Prop} (hbase:bm.contains (.type "BaseException")=true) (hh:A.handled=none)
  (h:wpAny M A x (λv s₁=>∃e od vs sl,v= .ref e/\s₁.heap.get? C=some (excClassObj nm q C N bs bm hdct sn sub ab col dd k0 k1 k2 k3 k5 newId) ∧
   s₁.heap.get? e=some ⟨.ref C,od,.fields vs,sl⟩/\vs[1]? =some .none/\E (.ref e) s₁) E s):wpAny M A (raiseStmt env (some x) none) Q E s:=by
 have RY:(Value.ref C::bm).contains (.type "BaseException")=true:=by rw[List.contains_cons,hbase,Bool.or_true]
 unfold raiseStmt
 refine wpAny_bind (wpAny_mono h (λv s₁ h₁=>?_) λ_ _ x=>x)
 obtain⟨e,od,vs,sl,rfl,hC,he,hv,hE⟩:=h₁
 obtain⟨hp,g,d,tk,os⟩:=s₁
 repeat (first|with_reducible refine wpAny_loadPart_at he ?_|with_reducible refine wpAny_loadPart_at hC ?_|(with_reducible refine wpAny_isSubtype_exc hC ?_;rw[RY])|wp_step)
 rw[hv]
 refine wpAny_pure ?_
 rw[if_neg (by decide)]
 exact wpAny_pure (wpAny_raiseNew_none hh hE)
end
def D0:List Value:=[.type "ValueError",.type "Exception",.type "BaseException",.type "object"]
structure CG(K:PySem.W.Frag)(C fI:Addr):Prop where
 obj:∀h:Heap,K.In h->∃d:XP,h.get? C=some (d.obj C "ValueError.__new__")/\h.Ns d.N d.mN/\d.mN "__init__" =some (.ref fI)/\OwnTail h D0 d.bm
def A7(K:PySem.W.Frag)(C fI:Addr):Bool:=match K.lookup C with
 |some ⟨.type "type",_,.cls cd,sl⟩=>(match cd.mro,sl.toList with
  | .ref C'::bm,[_,_,_,_,some (.builtin n),_]=>C'==C&&n== "ValueError.__new__" && !cd.hasDel&&PySem.W.tailIn K D0 bm&&PySem.W.nsOkIn K cd.ns&&PySem.W.nsIn K cd.ns "__init__" ==some (some (.ref fI))
  |_,_=>false)
 |_=>false
theorem AH{K:PySem.W.Frag}{h:Heap}{N:Addr}{mg:Str->Option Value}{n:Str}{v:Value}(X:K.In h)(G:h.Ns N mg)(e:PySem.W.nsIn K N n=some (some v)):mg n=some v:=by
 obtain⟨o,es,ep,ho,hd,_,hf⟩:=G
 unfold PySem.W.nsIn at e
 split at e
 ·rename_i c d es' n' sl q
  have:=X _ _ q
  rw[ho]at this
  cases this
  cases hd
  split at e
  ·rename_i he
   cases e
   rw[←hf]
   unfold nsFind findBy
   rw[←Array.find?_toList,he]
   rfl
  ·split at e
   ·cases e
   ·cases e
 ·cases e
theorem yw{K:PySem.W.Frag}{C fI:Addr}(q:A7 K C fI=true):CG K C fI:=by
 refine⟨λh k=>?_⟩
 unfold A7 at q
 split at q
 ·rename_i dd cd sl hob
  split at q
  ·rename_i C' bm k0 k1 k2 k3 nn k5 hmr Fe
   simp only[Bool.and_eq_true,beq_iff_eq,Bool.not_eq_true']at q
   obtain⟨⟨⟨⟨⟨e1,e2⟩,e3⟩,e4⟩,e5⟩,e6⟩:=q
   subst e1 e2
   obtain⟨nm,bs,mro,ns,qn,hd,sn,sub,ab,col,del⟩:=cd
   dsimp only at hmr e3 e5 e6
   subst hmr e3
   have hsl:sl= #[k0,k1,k2,k3,some (.builtin "ValueError.__new__"),k5]:=by
    obtain⟨l⟩:=sl
    simp only at Fe
    rw[Fe]
   subst hsl
   have G:h.Ns ns _:=.of_isNs (PySem.W.isNs_of_in k e5)
   exact⟨⟨nm,qn,ns,bs,bm,hd,sn,sub,ab,col,dd,k0,k1,k2,k3,k5,_⟩,k _ _ hob,G,AH k G e6,PySem.W.tail_of_in k e4⟩
  ·cases q
 ·cases q
structure XBase(K:PySem.W.Frag)(W:Addr):Prop where
 ga:PySem.W.specialIn K (.ref W) "__getattribute__" =some (some (.builtin "type.__getattribute__"))
 rd:PySem.W.readsIn K W (.type "type")=true
 fd:PySem.W.findCls K (.ref W) (.type "type") "__init__" =some (.val (.builtin "ValueError.__init__"))
def oV:List Value->Bool
 |[]=>false
 |v::r=>(v::r)==D0||match v with| .ref _=>oV r|_=>false
structure Na(K:PySem.W.Frag)(C:Addr):Prop where
 hd:PySem.W.hasDictIn K C=true
 po:((PySem.W.clsIn K C).any λcd=>oV cd.mro)=true
 sa:PySem.W.findIn K (.ref C) "__setattr__" =some (some (.builtin "object.__setattr__"))
theorem vN(self:Value):∀{l:List Value},oV l=true->refuseLoop self "__setattr__" l=pure ()
 |[],e=>by cases e
 |v::r,e=>by
  unfold oV at e
  rcases Bool.or_eq_true_iff.mp e with q|q
  ·rw[beq_iff_eq.mp q];exact PySem.F.store_ValueError.passes self
  ·split at q
   ·rw[refuseLoop_ref];exact vN self q
   ·cases q
theorem DZ:∀{l:List Value},oV l=true->l.contains (.type "object")=true
 |[],e=>by cases e
 |v::r,e=>by
  unfold oV at e
  rcases Bool.or_eq_true_iff.mp e with q|q
  ·rw[beq_iff_eq.mp q];decide +kernel
  ·split at q
   ·rw[List.contains_cons,DZ q,Bool.or_true]
   ·cases q
end L2
namespace L2
open PySem PySem.Spec PyProof.Rows
def Lq(K:PySem.W.Frag)(t:TA):TE:=λσ H Q=>t σ H λvs H1=>∃e C fI od y,vs=[.ref e,y]/\H1 e=some (newX e C od)/\CG K C fI/\Q .gx H1
theorem BQ {X:Cx} {x:Str} {W:Addr} {np apos cpos:Pos} {a b:Expr} {t:TA} {pl:Sem Bool} (hW:XBase X.K W) (hg:Gl X x) (hm:X.mg x=some (.ref W)) (ha:PA X [a,b] t) (hdb:(x==("__debug__" :Str))=false:=by decide)
  (hev:eval (.Call (.Attribute (.Name x np) "__init__" apos) [a,b] [] cpos) X.env=(do
   let ov ←eval (.Name x np) X.env
   standAt apos.atName
   let (f,first) ←holding [ov] (getMethod ov "__init__" pl)
   callWith cpos f first (backTo cpos (starEach [a,b] X.env)) (backToKw cpos (keywordEach [] X.env))):=by rfl)
  (hs:starEach [a,b] X.env=(false,eval a X.env)::starEach [b] X.env:=by rfl) (hpl:(backTo cpos (starEach [b] X.env)).any (·.1)=false:=by rfl) :
  PE X (.Call (.Attribute (.Name x np) "__init__" apos) [a,b] [] cpos) (Lq X.K t):=by
 intro pins s σ H Q I h
 refine PySem.W.methodCall_KW (pl:=pl) (jA I hg hm ?_ hdb) hev
 refine PySem.W.method_cls I.kK hW.ga (PySem.W.cls_value I.kK hW.rd hW.fd (by decide +kernel) ?_)
 have hA:=ha cpos pins { s with toks:=s.toks+1 } σ H _ (I.tok _) h
 rw[hs]at hA ⊢
 refine Calls.callWith_builtin (by show(false||(backTo cpos (starEach [b] X.env)).any (·.1))=false;rw[hpl]<;>rfl) (Calls.evalArgs_plain ?_)
 refine fK hA λus s2 ⟨vs,H2,I2,r2,e,C,fI,od,y,e1,hx,O,q⟩=>?_
 subst e1
 obtain⟨u1,u2,rfl,US,_⟩:=vals2 r2
 cases (show u1=Value.ref e from US)
 obtain⟨⟨vs,sl,he,h1⟩,_,_⟩:=(show b8 X.prog X.w H2 s2.heap e (newX e C od) from I2.hok e _ hx)
 obtain⟨d,hC,hN,hni,T⟩:=O.obj s2.heap I2.kK
 have F:=PySem.F.excBase_ValueError
 have Wz:=I2
 obtain⟨hh,gs,dr,tk,os⟩:=s2
 show wpAny _ _ (call (.builtin "ValueError.__init__") [.ref e,u2]) _ _ _
 refine wpAny_call (codeAny_call_builtin F.init.plain F.initEntry (wpAny_check_init_subU F T hC he rfl ?_))
 have hv:0<vs.size:=Nat.lt_of_le_of_lt (Nat.zero_le 1) (Array.getElem?_eq_some_iff.mp h1.1).1
 have hv0:vs[0]? =some vs[0]:=Array.getElem?_eq_getElem hv
 wp_walk
 rw[hv0]
 refine wpAny_pure ?_
 have hg:(hh.push { cls:=.type "tuple",data:=.seq #[u2] }).get? e=some ⟨.ref C,od,.fields vs,sl⟩:=Heap.get?_push_of_some _ he
 refine wpAny_bind (wpAny_setField hg rfl hv ?_)
 have hu:=Heap.get?_update_self (Obj.mapFields (·.setIfInBounds 0 (Value.ref hh.objs.size))) hg rfl
 have fin:EP X pins σ Q Value.none ⟨(hh.push { cls:=.type "tuple",data:=.seq #[u2] }).update e (Obj.mapFields (·.setIfInBounds 0 (Value.ref hh.objs.size))),gs,dr,tk,os⟩:=by
  refine⟨.gx,H2,?_,rfl,q⟩
  have J1:=Wz.kept (h':=hh.push { cls:=.type "tuple",data:=.seq #[u2] }) (t':=tk) λb u z=>Heap.get?_push_of_some _ z
  have J2:=J1.write (x:=e) (e:=e) (o:=newX e C od) (t':=tk) (by rw[hx];exact True.intro) (.inl rfl) (λb u hb z=>(Heap.get?_update_other _ _ (Ne.symm hb)).trans z) ⟨_,hu⟩ (sO hu (by simp[h1]))
  rw[IB hx]at J2
  exact J2
 cases hq:vs[0]with
 |ref t0=>exact wpAny_letGo (wpAny_pure fin)
 |_=>exact wpAny_pure (wpAny_pure fin)
end L2
namespace L2
open PySem PySem.Spec PyProof.Rows
section
variable{prog:Program}{w:World}{A:Around}{E:Value->Shared->Prop}{s:Shared}{K:PySem.W.Frag}{x dx C:Addr}{name:Str}{v:Value}{R:Result->Shared->Prop}
theorem BR{ox:Obj}{od:Option Obj}{tk:Tok}(X:K.In s.heap)(I:PySem.W.InstAt s.heap x ox C od)(S:Na K C)(ht:PySem.W.takerIn K C name=some none)
  (h:∀b,wpAny (model prog w) A.in1 (Builtin.ObjectAttr.storeInOwnDict (.ref x) (.ref C) (.str name tk) name v b)
   (λfin s'=>match fin with| .done f=>R (.ok f) s'| .again c'=>c'.quiet=true/\codeAny (model prog w) A c' R s') (λe s'=>R (.error e) s') s) :
  codeAny (model prog w) A (.call (.builtin "object.__setattr__") ⟨[.ref x,.str name tk,v],[]⟩) R s:=by
 have SF:=PySem.F.store_object
 obtain⟨cd,hc,ho⟩:=PySem.W.any_some S.po
 have ne:cd.mro.isEmpty=false:=by cases q:cd.mro with|nil=>rw[q]at ho;cases ho|cons _ _=>rfl
 have sub:PySem.W.Looks (model prog w) s.heap (isInstance (.ref x) (.type "object")) true:=I.type.andThen (PySem.W.looks_mroIn X (by unfold PySem.W.mroIn;rw[hc,Option.bind_some,if_neg (by rw[ne];decide),DZ ho]))
 refine codeAny_call_builtin SF.slot.plain SF.entry (@PySem.W.check_slot (model prog w) _ _ s "object.__setattr__" "object" "__setattr__" (.ref x) [.str name tk,v] [] _ SF.kind SF.split sub (SF.args (.ref x) (.str name tk) v) ?_)
 obtain⟨attr,ha,hr⟩:=Option.bind_eq_some_iff.mp ht
 have hm:PySem.W.Looks (model prog w) s.heap (mroOf (.ref C)) cd.mro:=(PySem.W.looks_clsIn X hc).andThen .now
 have L3:PySem.W.Looks (model prog w) s.heap (Builtin.ObjectAttr.storeTaker? attr) none:=by
  cases attr with
  |none=>cases hr;exact .now
  |some a =>
   obtain⟨b,hb,e⟩:=Option.map_eq_some_iff.mp hr
   refine(PySem.W.looks_takesIn X hb).andThen ?_
   cases b with
   |false=>exact .now
   |true=>cases e
 rw[PySem.W.osa_eq,refuse_eq]
 refine wpAny_bind (wpAny_bind (I.type.here (wpAny_bind (hm.here ?_))))
 rw[vN _ ho]
 refine wpAny_pure (wpAny_bind (I.type.here (wpAny_bind ((PySem.W.looks_findIn X ha).here (wpAny_bind (L3.here ?_))))))
 exact h _
theorem Ag{vs:Array Value}{sl:Array (Option Value)}{mA:Str->Option Value}{ns:List Str}{Q:Unit->Shared->Prop}(X:K.In s.heap)(S:Na K C)(ht:PySem.W.takerIn K C name=some none)
  (he:s.heap.get? x=some ⟨.ref C,some dx,.fields vs,sl⟩) (hn:s.heap.Ns1 dx mA) (hw:PySem.Within mA ns) (hsz:ns.length+1<=sizeLine)
  (h:∀h',h'.Ns1 dx (λy=>if y=name then some v else mA y)->Heap.SameBut dx s.heap h'->Q () { s with heap:=h',toks:=s.toks+2 }):wpAny (model prog w) A (setAttr (.ref x) name v) Q E s:=by
 obtain⟨od,ho,hl⟩:=qS hn
 have J:PySem.W.InstAt s.heap x ⟨.ref C,some dx,.fields vs,sl⟩ C (some od):=⟨he,rfl,rfl,ho⟩
 refine PySem.W.set_plain X J S.sa (BR (s:={ s with toks:=s.toks+1 }) X J S ht λb=>?_)
 obtain⟨cd,hc,hd'⟩:=PySem.W.any_some S.hd
 refine wpAny_bind (wpAny_pure (wpAny_bind (wpAny_bind (wpAny_loadPart he (wpAny_bind (PySem.W.Looks.here (s:={ s with toks:=s.toks+1 }) (PySem.W.looks_clsIn X hc) ?_))))))
 rw[hd']
 refine wpAny_pure (a:=some dx) (wpAny_bind (wpAny_pure (wpAny_bind ?_)))
 refine wpAny_nsSet1 (s:={ s with toks:=s.toks+1 }) hn λh' hn2 hs2=>?_
 obtain⟨oD,esD,Us,My,MH,MI⟩:=hn2.count (PySem.Within.cons name v hw)
 refine wpAny_bind (wpAny_lookBehind My (by rw[MH];exact pastItsLine_dict (Nat.le_trans MI (by rw[List.length_cons];omega))) ?_)
 exact wpAny_pure (h _ hn2 hs2)
theorem Ah{vs:Array Value}{sl:Array (Option Value)}{Q:Unit->Shared->Prop}(X:K.In s.heap)(S:Na K C)(ht:PySem.W.takerIn K C name=some none)
  (he:s.heap.get? x=some ⟨.ref C,none,.fields vs,sl⟩)
  (h:∀h',h'.Ns1 s.heap.objs.size (λy=>if y=name then some v else none)->Heap.SameBut s.heap.objs.size ((s.heap.push PySem.W.emptyDict).update x λo=>{ o with dict:=some s.heap.objs.size }) h'->Q () { s with heap:=h',toks:=s.toks+2 }):wpAny (model prog w) A (setAttr (.ref x) name v) Q E s:=by
 have J:PySem.W.InstAt s.heap x ⟨.ref C,none,.fields vs,sl⟩ C none:=⟨he,rfl,rfl,trivial⟩
 refine PySem.W.set_plain X J S.sa (BR (s:={ s with toks:=s.toks+1 }) X J S ht λb=>?_)
 obtain⟨cd,hc,hd'⟩:=PySem.W.any_some S.hd
 refine wpAny_bind (wpAny_pure (wpAny_bind (wpAny_bind (wpAny_loadPart he (wpAny_bind (PySem.W.Looks.here (s:={ s with toks:=s.toks+1 }) (PySem.W.looks_clsIn X hc) ?_))))))
 rw[hd']
 rw[if_neg (by decide)]
 have hxs:x≠s.heap.objs.size:=Nat.ne_of_lt (Heap.lt_size he)
 have Mr:(s.heap.push PySem.W.emptyDict).get? x=some ⟨.ref C,none,.fields vs,sl⟩:=Heap.get?_push_of_some _ he
 show wpAny (model prog w) A.in1 (alloc PySem.W.emptyDict >>= λd=>update x (λo=>{ o with dict:=some d }) >>= λ_=>dictMade (.ref C) x d) _ _ _
 refine wpAny_bind (wpAny_alloc (wpAny_bind (wpAny_update Mr ?_)))
 refine wpAny_pure ?_
 have hgd:((s.heap.push PySem.W.emptyDict).update x λo=>{ o with dict:=some s.heap.objs.size }).get? s.heap.objs.size=some PySem.W.emptyDict :=
  (Heap.get?_update_ne _ _ _ _ hxs.symm).trans (Heap.get?_push_size _ rfl)
 have hnd:((s.heap.push PySem.W.emptyDict).update x λo=>{ o with dict:=some s.heap.objs.size }).Ns s.heap.objs.size (λ_=>none) :=
  ⟨_,#[],_,hgd,rfl,λe he=>absurd he (by simp),λ_=>rfl⟩
 show wpAny _ _ (Builtin.ObjectAttr.storeInDict s.heap.objs.size (.str name s.toks) name v) _ _ _
 refine wpAny_bind (wpAny_pure (wpAny_bind ?_))
 refine wpAny_nsSet1 (s:={ s with heap:=(s.heap.push PySem.W.emptyDict).update x λo=>{ o with dict:=some s.heap.objs.size },toks:=s.toks+1 }) (Heap.Ns1.of_empty hnd) λh' hn2 hs2=>?_
 obtain⟨oD,esD,Us,My,MH,MI⟩:=hn2.count (PySem.Within.cons name v PySem.Within.nil)
 refine wpAny_bind (wpAny_lookBehind My (by rw[MH];exact pastItsLine_dict (Nat.le_trans MI (by rw[List.length_cons,List.length_nil,sizeLine_eq];omega))) ?_)
 exact wpAny_pure (h _ hn2 hs2)
end
end L2
namespace L2
open PySem PySem.Spec PyProof.Rows
theorem yP{fs:List (Str×V)}{mA:Str->Option Value}{f:Str}{y:V}{u:Value}(r:∀g,pK (fs.lookup g) (mA g))(ry:RelV y u):∀g,pK ((aJ f y fs).lookup g) (if g=f then some u else mA g):=λg=>by
 rw[ao]
 by_cases q:g=f
 ·rw[if_pos q,if_pos q];exact ry
 ·rw[if_neg q,if_neg q];exact r g
theorem sV{fs:List (Str×V)}{mA:Str->Option Value}{f:Str}{y:V}{u:Value}(wi:PySem.Within mA (fs.map (·.1))):PySem.Within (λg=>if g=f then some u else mA g) ((aJ f y fs).map (·.1)):=λg hg=>by
 by_cases q:g=f
 ·rw[q];exact(lG f y fs).1
 ·refine(lG f y fs).2 g (wi g λz=>hg ?_)
  show(if g=f then some u else mA g)=none
  rw[if_neg q];exact z
def LC(K:PySem.W.Frag)(ta tv:TE)(f:Str):TS:=λD σ H=>tv σ H λy H1=>ta σ H1 λx H2=>∃e C,x= .ref e/\Na K C/\cV K C f ∧
 ((H2 e=some (newX e C none)/\∀dx,H2 dx=none->D.nx σ (upd (upd (upd H2 dx (vB dx [])) e (newX e C (some dx))) dx (vB dx (aJ f y [])))) ∨
  ∃dx fs,H2 e=some (newX e C (some dx))/\H2 dx=some (vB dx fs)/\fs.length<1000/\D.nx σ (upd H2 dx (vB dx (aJ f y fs))))
theorem BN{X:Cx}{o value:Expr}{f:Str}{pos pos':Pos}{ta tv:TE}(ha:PE X o ta)(hv:PE X value tv)(hs:swapsWith value (some (.Attribute o f pos')) pos.line X.env=pure false):PS X (.Assign [.Attribute o f pos'] value pos) (LC X.K ta tv f):=by
 intro pins s σ H D I h
 refine plainObj_wpAny_Assign_Attribute (fK (hv pins s σ H _ I h) λu s1 ⟨y,H1,I1,ry,q⟩=>fK (ha pins s1 σ H1 _ I1 q) λov s2 ⟨x,H2,I2,rx,e,C,ex,S,n,hk⟩=>?_) hs
 subst ex
 obtain rfl:ov=Value.ref e:=rx
 rcases hk with⟨hx,q2⟩|⟨dx,fs,hx,hd,hl,q2⟩
 ·obtain⟨⟨vs,sl,he,h1⟩,_,_⟩:=(show b8 X.prog X.w H2 s2.heap e (newX e C none) from I2.hok e _ hx)
  refine Ah I2.kK S n.Eb he λh' hn' sb=>?_
  have ne:e≠s2.heap.objs.size:=Nat.ne_of_lt (Heap.lt_size he)
  have e1:(s2.heap.push PySem.W.emptyDict).get? s2.heap.objs.size=some PySem.W.emptyDict:=Heap.get?_push_size _ rfl
  have n1:(s2.heap.push PySem.W.emptyDict).Ns1 s2.heap.objs.size (λ_=>none):=Heap.Ns1.of_empty ⟨_,#[],_,e1,rfl,(λe he=>absurd he (by simp)),λ_=>rfl⟩
  have Kf:(s2.heap.push PySem.W.emptyDict).get? e=some ⟨.ref C,none,.fields vs,sl⟩:=Heap.get?_push_of_some _ he
  have K3:=Heap.get?_update_self (λo=>{ o with dict:=some s2.heap.objs.size }) Kf rfl
  have J1:=I2.laid (a:=s2.heap.objs.size) (o:=vB s2.heap.objs.size []) (h':=s2.heap.push PySem.W.emptyDict) (t':=s2.toks) (λb u q=>Heap.get?_push_of_some _ q) (Nat.le_refl _) (Aa n1 (λ_=>True.intro) (λy hy=>absurd rfl hy))
  have J2:=J1.write (x:=e) (e:=e) (o:=newX e C (some s2.heap.objs.size)) (t':=s2.toks) (by rw[az ne,hx];exact True.intro) (.inl rfl) (λb u hb q=>(Heap.get?_update_other _ _ (Ne.symm hb)).trans q) ⟨_,K3⟩ (sO K3 h1)
  have J3:=J2.write (x:=s2.heap.objs.size) (e:=s2.heap.objs.size) (o:=vB s2.heap.objs.size (aJ f y [])) (h':=h') (t':=s2.toks+2) (by rw[az (Ne.symm ne),af];exact True.intro) (.inl rfl) (λb u hb q=>(sb.2 b hb).trans q) (let ⟨o,_,_,e,_⟩:=hn';⟨o,e⟩)
   (Aa hn' (yP (mA:=λ_=>none) (λ_=>True.intro) ry) (sV (mA:=λ_=>none) λy hy=>absurd rfl hy)) (ht:=by show s2.toks<=s2.toks+2;omega)
  exact⟨σ,_,J3,q2 _ (I2.hok.fresh (Nat.le_refl _))⟩
 ·obtain⟨⟨vs,sl,he,h1⟩,_,_⟩:=(show b8 X.prog X.w H2 s2.heap e (newX e C (some dx)) from I2.hok e _ hx)
  obtain⟨⟨mA,nA,rA,wA⟩,_,_⟩:=(show b8 X.prog X.w H2 s2.heap dx (vB dx fs) from I2.hok dx _ hd)
  refine Ag I2.kK S n.Eb he nA wA (by rw[List.length_map,sizeLine_eq];omega) λh' hn' sb=>?_
  have J3:=I2.write (x:=dx) (e:=dx) (o:=vB dx (aJ f y fs)) (h':=h') (t':=s2.toks+2) (by rw[hd];exact True.intro) (.inl rfl) (λb u hb q=>(sb.2 b hb).trans q) (let ⟨o,_,_,e,_⟩:=hn';⟨o,e⟩) (Aa hn' (yP rA ry) (sV wA))
  exact⟨σ,_,J3,q2⟩
structure K8(K:PySem.W.Frag)(C f:Addr):Prop where
 cls:CG K C f
 fn:PySem.W.isFn K (.ref f)=true
 kp:PySem.W.keepIn K (.ref C)=true
def wM(C:Addr)(sp:Sp)(E:St->XK)(t:TA):TS:=λ_ σ H=>t σ H λvs H1=>vs.length<=sizeLine/\∀e,H1 e=none →
 sp (.ref e::vs) (upd H1 e (newX e C none)) (λv H2=>v= .gx/\∃od,H2 e=some (newX e C od)/\E σ (.ref C) od (del H2 e)) (E σ)
theorem qI{X:Cx}{E:St->XK}{C f:Addr}{x:Str}{np cpos pos:Pos}{k:Nat}{fd:FuncData}{ps:List Str}{sp:Sp}{e:Expr}{es:List Expr}{t:TA}(L:Lets X E)(M:K8 X.K C f)
  (F:aW X.prog X.w X.K X.mg X.base (sS X.prog X.w) k f fd ps sp) (hr:jd (k+1) X.A) (hb:Binds X.K fd ps []) (hc:X.calm=true)
  (hg:Gl X x) (hm:X.mg x=some (.ref C)) (ha:PA X (e::es) t) (hdb:(x==("__debug__" :Str))=false:=by decide) (he:starEach (e::es) X.env=(false,eval e X.env)::starEach es X.env:=by rfl)
  (hpl:(backTo cpos (starEach es X.env)).any (·.1)=false:=by rfl):PS X (.Raise (some (.Call (.Name x np) (e::es) [] cpos)) none pos) (wM C sp E t):=by
 intro pins s σ H D I h
 obtain⟨d,hC,hN,hni,T⟩:=M.cls.obj X.base I.ok.mod.E8
 rw[arm_exec_Raise]
 have FB:=PySem.F.excBase_ValueError
 simp only[evalOpt,Option.map]
 refine wpAny_bind (wpAny_standAt (Av (C:=C) (nm:=d.nm) (q:=d.q) (N:=d.N) (bs:=d.bs) (bm:=d.bm) (hdct:=d.hdct) (sn:=d.sn) (sub:=d.sub) (ab:=d.ab) (col:=d.col) (dd:=d.dd) (k0:=d.k0) (k1:=d.k1) (k2:=d.k2) (k3:=d.k3) (k5:=d.k5) (newId:= "ValueError.__new__") (T.hasType FB.hasBase) (I.ok.hd hc) ?_))
 refine wpAny_bind (fK (Q:=λv s₁=>∃e od vs sl,v= .ref e/\s₁.heap.get? C=some (d.obj C "ValueError.__new__")/\s₁.heap.get? e=some ⟨.ref C,od,.fields vs,sl⟩/\vs[1]? =some .none/\X.xe (.ref e) s₁) ?_ λv s2 h2=>wpAny_bind (wpAny_standAt (wpAny_pure h2)))
 refine wpAny_Call_Name_kw (jA I hg hm ?_ hdb)
 refine PySem.W.callWith_K (h₀:=X.base) I.ok.mod.E8 M.kp (fK (ha cpos pins s σ H _ I h) λus s1 ⟨vs,H1,I1,r,hl,q1⟩=>⟨I1.kK,?_⟩) he hpl
 have hfo:∃o,s1.heap.get? f=some o/\o.cls= .type "function" :=by
  obtain⟨o,ho,hc⟩:=Option.map_eq_some_iff.mp (beq_iff_eq.mp M.fn)
  exact⟨o,I1.kK _ _ ho,hc⟩
 obtain⟨oI,hfo,hfc⟩:=hfo
 have WW:=I1
 obtain⟨hh,gs,dr,tk,os⟩:=s1
 refine wu (N:=d.N) (mN:=d.mN) FB FB.hasB FB (T.keeps I1.bk) (I1.bk _ _ hC) (hN.keeps I1.bk) hni hfo hfc (λh' ea made=>?_) (by show us.length<=sizeLine;rw[←r.length];exact hl)
 obtain⟨t',ht,_,_⟩:=made.there
 have xo:=I1.KQ made.new (I1.hok.none_of made.new)
 have J0:Inv X pins σ H1 ⟨h',gs,dr,tk,os⟩:=I1.kept (t':=tk) made.keeps
 have J1:Inv X pins σ (upd H1 ea (newX ea C none)) ⟨h',gs,dr,tk,os⟩:=J0.wJ xo (sO ht ⟨rfl,rfl,by simp⟩)
 have hq:=q1 ea xo.1
 have r2:Vals (V.ref ea::vs) (Value.ref ea::us):=.cons rfl r
 have hlen:(Value.ref ea::us).length=ps.length:=by rw[←r2.length];exact F.len _ _ _ _ hq
 refine wpAny_call (codeAny_mono (F.run _ X.stack _ _ ⟨Value.ref ea::us,[]⟩ (Value.ref ea::us) _ _ (E σ) (hr.make C us []) (J1.FE.make C us []) (by have z:=hb _ (Value.ref ea::us) J1.kK (by rw[List.append_nil];exact hlen);rw[List.append_nil]at z;exact z) r2 hq) λrr s' hq'=>?_)
 cases rr with
 |error e=>exact L.pass J1 hq'
 |ok fl =>
  cases fl with
  |ret u =>
   obtain⟨v,H',I3,rv,ev,od,hx,qE⟩:=J1.after hq'
   subst ev
   obtain⟨⟨vs',yo,he',G9⟩,_,_⟩:=(show b8 X.prog X.w H' s'.heap ea (newX ea C od) from I3.hok ea _ hx)
   refine⟨rv,ea,od,vs',yo,rfl,I3.bk _ _ hC,he',G9.1,?_⟩
   exact L pins σ (del H' ea) s' ea (.ref C) od (I3.drop hx) ⟨⟨uG,xo.2⟩,vs',yo,he',λ_=>G9.2.1,.inl G9.1⟩ qE
  |next=>exact False.elim hq'
  |brk=>exact False.elim hq'
  |cont=>exact False.elim hq'
end L2
namespace L2
open PySem PySem.Spec PyProof.Rows
section
variable{X:Cx}{a b c:Expr}{ta tb tc:TE}{pos:Pos}{rest:List Expr}
end
end L2
namespace L2
open PySem PySem.Spec PyProof.Rows
end L2
namespace GP
open PySem L2 iX
theorem vR{n:Nat}(h:n<=100000):((n:Nat):Int).natAbs.log2<1920:=by
 rw[Int.natAbs_natCast]
 by_cases z:n=0
 ·subst z;decide
 ·rw[Nat.log2_lt z]
  exact Nat.lt_of_le_of_lt h (Nat.lt_of_lt_of_le (show 100000<2 ^ 20 by decide) (Nat.pow_le_pow_right (by decide) (by decide)))
theorem Cn{a b:Str}{m n:Nat}(h1:a.length<=m)(h2:b.length<=n):(a++b).length<=m+n:=by rw[strLen_append];omega
end GP
namespace L2
open PySem PySem.Spec PyProof.Rows
theorem Fz{prog:Program}{w:World}{A:Around}{E:Value->Shared->Prop}{s:Shared}{K:PySem.W.Frag}{x C:Addr}{ox:Obj}{od:Option Obj}{name:Str}{expr:Bool}{v:Value}{Q:Value->Shared->Prop}(Z:KH K C)(k:K.In s.heap)(I:PySem.W.InstAt s.heap x ox C od)
  (hf:PySem.W.findObj K C od name=some (.value v)) (hd:PySem.W.handedIn v=true) (h:Q v { s with toks:=s.toks+1 }):wpAny (model prog w) A (getAttr (.ref x) name expr) Q E s:=by
 obtain⟨hh,g,d,t,os⟩:=s
 have L0:=I.type (M:=model prog w)
 have L1:=PySem.W.looks_findIn (M:=model prog w) k Z.ga
 have L2:=PySem.W.looks_findIn (M:=model prog w) k Z.gn
 have LB:=PySem.W.looks_mroIn (M:=model prog w) k Z.hb
 have LF:=PySem.W.looks_find (M:=model prog w) k I hf
 unfold getAttr getAttrBy
 refine wpAny_bind (wpAny_mkText (wpAny_holding (wpAny_bind (L0.at (wpAny_bind (L1.at ?_))))))
 show wpAny _ _ (getAttrByItsOwn _ _ _ _ _ _) _ _ _
 unfold getAttrByItsOwn hookBefore
 refine wpAny_bind (L2.at ?_)
 refine wpAny_bind (wpAny_attempt (wpAny_holding ?_))
 have e0:∀n:Value,callGetattribute (.ref x) n (.builtin "BaseException.__getattribute__") expr=boundAndCalled (.builtin "BaseException.__getattribute__") (.ref x) n:=λn=>by
  unfold callGetattribute
  cases expr<;>rfl
 rw[e0]
 unfold boundAndCalled
 refine wpAny_bind (wpAny_of_eq (PySem.F.attr_ValueError.ga.bind (.ref x)) ?_)
 show wpAny _ _ (call (.builtin "BaseException.__getattribute__") [.ref x,.str name t]) _ _ _
 refine wpAny_call (codeAny_call_builtin PySem.F.attr_ValueError.ga.plain PySem.F.entry_bexc_ga ?_)
 have c1:builtinKind "BaseException.__getattribute__" =some .slot:=by decide +kernel
 have c2:splitId "BaseException.__getattribute__" =some ("BaseException","__getattribute__"):=by decide +kernel
 have c3:=PySem.F.args_bexc_ga (.ref x) (.str name t)
 simp only[checkBuiltinCall,c1,c2]
 refine wpAny_bind (wpAny_bind (L0.at (LB.at ?_)))
 simp only[Bool.not_true,Bool.false_eq_true,if_false]
 unfold argsOk at c3
 refine wpAny_of_eq c3 ?_
 unfold Builtin.«object.__getattribute__»
 refine wpAny_bind (wpAny_pure (wpAny_bind (wpAny_pure (wpAny_bind (L0.at (wpAny_bind (LF.at ?_)))))))
 refine wpAny_pure ?_
 show wpAny _ _ (handedOut v) _ _ _
 rw[PySem.W.handedOut_of hd]
 exact wpAny_pure h
def Ln(K:PySem.W.Frag)(ta:TE)(f:Str):TE:=λσ H Q=>ta σ H λx H1=>∃e C dx fs i,x= .ref e/\H1 e=some (F9 e (.ref C) (some dx))/\H1 dx=some (vB dx fs)/\KH K C/\cV K C f/\fs.lookup f=some (.int i)/\Q (.int i) H1
theorem ur{P:Program}{w:World}{H:Hp}{h:Heap}{e C dx:Addr}{fs:List (Str×V)}(hok:lg P w H h)(he:H e=some (F9 e (.ref C) (some dx)))(hd:H dx=some (vB dx fs)):
  ∃ox od,∃mA:Str->Option Value,PySem.W.InstAt h e ox C (some od)/\(∀name,PySem.W.lookIn name od=some (mA name))/\∀f,pK (fs.lookup f) (mA f):=by
 obtain⟨⟨vs,sl,h1⟩,_,_⟩:=(show b8 P w H h e (F9 e (.ref C) (some dx)) from hok e _ he)
 obtain⟨⟨mA,nA,rA,wA⟩,_,_⟩:=(show b8 P w H h dx (vB dx fs) from hok dx _ hd)
 obtain⟨od,ho,hl⟩:=qS nA
 exact⟨_,od,mA,⟨h1,rfl,rfl,ho⟩,hl,rA⟩
theorem GD{X:Cx}{e:Expr}{f:Str}{pos:Pos}{ta:TE}(he:PE X e ta)(hb:attributeBase e f X.env (eval e X.env)=eval e X.env):PE X (.Attribute e f pos) (Ln X.K ta f):=by
 intro pins s σ H Q I h
 refine CD hb (fK (he pins s σ H _ I h) λu s1 ⟨x,H1,I1,rx,e,C,dx,fs,i,ex,hx,hd,Z,n,l,q⟩=>?_)
 subst ex
 obtain rfl:u=Value.ref e:=rx
 obtain⟨ox,od,mA,J,hl,rA⟩:=ur I1.hok hx hd
 have r:=rA f
 rw[l]at r
 cases hm:mA f with
 |none=>rw[hm]at r;exact r.elim
 |some u =>
  rw[hm]at r
  obtain⟨t,rfl⟩:=(show ∃t,u=Value.int i t from r)
  refine Fz Z I1.kK J ?_ rfl ⟨.int i,H1,I1.tok _,⟨t,rfl⟩,q⟩
  obtain⟨cd,hc,VT⟩:=PySem.W.any_some Z.hd
  have hn:PySem.W.findIn X.K (.ref C) f=some none:=n
  unfold PySem.W.findObj
  rw[hc,Option.bind_some,hn,Option.bind_some]
  simp only[Option.bind_some,PySem.W.ownOf,VT,if_true,hl,hm]
theorem oU{X:Cx}:iV X (.builtin "isinstance") (λxs H Q=>∃ea C od c cv b,xs=[.ref ea,c]/\((∃D,c= .ref D/\cv= .ref D)\/∃T,c= .ty T/\cv= .type T)/\H ea=some (F9 ea (.ref C) od)/\(od=none\/∃dx fs,od=some dx/\H dx=some (vB dx fs))/\KH X.K C/\PySem.W.kitOne X.K (.ref C) cv=some b/\Q (.bl b) H):=by
 intro pins s σ H vs us Q I r h
 obtain⟨ea,C,od,c,cv,b,rfl,hc,hx,hod,Z,hk,q⟩:=h
 obtain⟨u,u2,rfl,rx,rc⟩:=vals2 r
 cases (show u=Value.ref ea from rx)
 have e2:u2=cv:=by
  rcases hc with⟨D,rfl,rfl⟩|⟨T,rfl,rfl⟩
  ·exact rc
  ·exact rc
 subst e2
 rcases hod with rfl|⟨dx,fs,rfl,hd⟩
 ·obtain⟨⟨ws,sl,e⟩,_,_⟩:=(show b8 X.prog X.w H s.heap ea (F9 ea (.ref C) none) from I.hok ea _ hx)
  exact TK.b9 (Nat.le_refl s.toks) (PySem.W.kia_one (qa (ox:=⟨.ref C,none,.fields ws,sl⟩) (od:=none) Z) I.kK ⟨e,rfl,rfl,trivial⟩ hk (λz=>nomatch z) λtk hup=>⟨.bl b,H,I.tok tk,rfl,q⟩)
 ·obtain⟨ox,o,mA,J,hl,rA⟩:=ur I.hok hx hd
  exact TK.b9 (Nat.le_refl s.toks) (PySem.W.kia_one (qa (ox:=ox) (od:=some o) Z) I.kK J hk (λz=>nomatch z) λtk hup=>⟨.bl b,H,I.tok tk,rfl,q⟩)
theorem wQ{x y:Str}(h:x.cps=y.cps):x=y:=by
 cases x
 cases y
 exact congrArg Str.mk h
def rT(x:Str)(n:Int):Str:=⟨(List.replicate n.toNat x.cps).foldl (·++·) #[]⟩
theorem tL(a:Array Nat):∀(n:Nat) (b:Array Nat),((List.replicate n a).foldl (·++·) b).toList=b.toList++(List.replicate n a.toList).flatten
 | 0,b=>by simp
 |n+1,b=>by
  rw[List.replicate_succ,List.foldl_cons,tL a n,List.replicate_succ,List.flatten_cons,Array.toList_append,List.append_assoc]
theorem CQ(x:Str)(n:Int):(rT x n).cps.toList=(List.replicate n.toNat x.cps.toList).flatten:=by
 unfold rT
 rw[tL]
 rfl
theorem yO(x:Str)(n:Int):(rT x n).cps.size=n.toNat*x.cps.size:=by
 rw[←Array.length_toList,CQ,List.length_flatten,List.map_replicate,List.sum_replicate_nat]
 rfl
theorem BS{X:Cx}:mL X (binaryOp .Mult) (λx y H Q=>∃z n,x= .str z/\y= .int n/\ -1000000<=n/\n<=1000000/\z.cps.size<=1000000/\n.toNat*z.cps.size<=sizeLine/\Q (.str (rT z n)) H):=by
 intro pins s σ H x y v u Q I rx ry h
 obtain⟨z,n,rfl,rfl,h1,h2,h3,h4,q⟩:=h
 obtain⟨t,rfl⟩:=rx
 obtain⟨t',rfl⟩:=ry
 have hl:z.length=z.cps.size:=rfl
 refine TK.b9 (Nat.le_refl s.toks) (PySem.P.mul_str ?_ (λk1 _=>?_) (λ_ _=>?_) ?_)
 ·rw[decide_eq_false (by omega),decide_eq_false (by omega)];rfl
 ·have k2:1<=n:=by omega
  have:(2 ^ 63-1:Int) / n>=1000000:=by
   rw[ge_iff_le,Int.le_ediv_iff_mul_le (by omega)]
   calc 1000000*n<=1000000*1000000:=by omega
    _<=_:=by decide
  omega
 ·show decide (z.length*n.toNat>sizeLine)=false
  rw[hl,Nat.mul_comm]
  exact decide_eq_false (Nat.not_lt.mpr h4)
 ·have fin:∀y:Str,y=rT z n->∀t k,s.toks<=k->EP X pins σ Q (.str y t) { s with toks:=k }:=λy e t k hk=>⟨.str (rT z n),H,I.tok k hk,⟨t,by rw[e]⟩,q⟩
  by_cases k1:n<1
  ·rw[if_pos k1]
   refine⟨Nat.zero_le _,fin _ ?_ _ _⟩
   unfold rT
   rw[show n.toNat=0 by omega]
   rfl
  ·rw[if_neg k1]
   by_cases k2:(n==1||z.length==0)=true
   ·rw[if_pos k2]
    refine fin _ ?_ _ s.toks
    rcases Bool.or_eq_true_iff.mp k2 with k|k
    ·have e:n=1:=by simpa using k
     subst e
     show z=⟨#[]++z.cps⟩
     simp
    ·have e:z.cps.size=0:=(show z.length=0 from eq_of_beq k)
     have e1:=yO z n
     rw[e,Nat.mul_zero]at e1
     have a1:z.cps= #[]:=Array.eq_empty_of_size_eq_zero e
     have a2:(rT z n).cps= #[]:=Array.eq_empty_of_size_eq_zero e1
     have:z.cps=(rT z n).cps:=a1.trans a2.symm
     exact wQ this
   ·rw[if_neg k2]
    refine⟨?_,fin _ rfl _ _⟩
    show(rT z n).cps.size<=sizeLine
    rw[yO]
    exact h4
end L2
namespace GP
open PySem L2 iX
theorem Em{x:Str}{lo hi:Option Int}{a b:Nat}(e:PySem.Builtin.Str.strSliceIndices lo hi 1 x.length=PySem.Builtin.Str.strSliceIndices (some (a:Int)) (some (b:Int)) 1 x.length)(hab:a<=b)(hb:b<=x.cps.size):(Txt.slice x lo hi).cps.toList=(x.cps.toList.drop a).take (b-a):=by
 have hb':b<=x.length:=hb
 have f:=StrLaws.sliced_plain x hab hb'
 unfold Txt.slice
 rw[e]
 split
 ·next h =>
  have hl:(PySem.Builtin.Str.strSliceIndices (some (a:Int)) (some (b:Int)) 1 x.length).length=x.length:=by simpa using h
  rw[StrLaws.strSliceIndices_plain hab hb',List.length_map,List.length_range]at hl
  have hl':b-a=x.cps.size:=hl
  have ha:a=0:=by omega
  subst ha
  rw[List.drop_zero,List.take_of_length_le (by rw[Array.length_toList];omega)]
 ·exact f
theorem yL{x:Str}{k:Int}(h0:0<=k)(h1:k<=(x.cps.size:Int)):(Txt.slice x (some k) none).cps.toList=x.cps.toList.drop k.toNat:=by
 obtain⟨n,rfl⟩:∃n:Nat,k=(n:Int):=⟨k.toNat,(Int.toNat_of_nonneg h0).symm⟩
 have e:=Em (x:=x) (lo:=some (n:Int)) (hi:=none) (a:=n) (b:=x.cps.size) (by
  have hl:x.length=x.cps.size:=rfl
  simp only[PySem.Builtin.Str.strSliceIndices,hl]
  simp
  rw[if_neg (show ¬(x.cps.size:Int)<0 by omega),show max (0:Int) (min (x.cps.size:Int) (x.cps.size:Int))=(x.cps.size:Int) by omega]) (by omega) (Nat.le_refl _)
 rw[e,List.take_of_length_le (by rw[List.length_drop,Array.length_toList];omega)]
 rfl
theorem qc{K:PySem.W.Frag}:PySem.W.kitOne K (.type "str") (.type "dict")=some false:=by kernel_rfl
theorem qb{K:PySem.W.Frag}:PySem.W.kitOne K (.type "str") (.type "list")=some false:=by kernel_rfl
theorem oN{K:PySem.W.Frag}:PySem.W.kitOne K (.type "str") (.type "tuple")=some false:=by kernel_rfl
end GP
namespace GP
open PySem L2 iX
end GP
namespace L2
open PySem PySem.Spec PyProof.Rows PySem.Builtin PySem.Builtin.Str
theorem vD:∀{cs:List Addr} {us:List Value},Vals (cs.map V.ref) us->us=cs.map Value.ref
 |[],_,.nil=>rfl
 |_::_,_,.cons r q=>by
  cases r
  rw[vD q]
  rfl
theorem vm{X:Cx}:iV X (.builtin "isinstance") (λxs H Q=>∃(ea C:Addr) (od:Option Addr) (tp:Addr) (cs:List Addr) (b:Bool),xs=[.ref ea,.ref tp]/\H tp=some (.tup (cs.map V.ref))/\H ea=some (F9 ea (.ref C) od)/\(od=none\/∃dx fs,od=some dx/\H dx=some (vB dx fs))/\KH X.K C/\PySem.W.kitAny X.K (.ref C) (cs.map Value.ref)=some b/\Q (.bl b) H):=by
 intro pins s σ H vs us Q I r h
 obtain⟨ea,C,od,tp,cs,b,rfl,htp,hx,hod,Z,hk,q⟩:=h
 obtain⟨u,u2,rfl,rx,rc⟩:=vals2 r
 cases (show u=Value.ref ea from rx)
 cases (show u2=Value.ref tp from rc)
 obtain⟨its,rv,⟨⟨cl,dd,da,sl⟩,e1,e2,n,e3⟩,_⟩:=I.tuple (cL.of htp)
 simp only at e2 e3
 subst e2 e3
 have hi:=vD rv
 subst hi
 rcases hod with rfl|⟨dx,fs,rfl,hd⟩
 ·obtain⟨⟨ws,sl,e⟩,_,_⟩:=(show b8 X.prog X.w H s.heap ea (F9 ea (.ref C) none) from I.hok ea _ hx)
  exact TK.b9 (Nat.le_refl s.toks) (PySem.W.kia_tup (qa (ox:=⟨.ref C,none,.fields ws,sl⟩) (od:=none) Z) I.kK ⟨e,rfl,rfl,trivial⟩ e1 hk (λz=>nomatch z) λtk hup=>⟨.bl b,H,I.tok tk,rfl,q⟩)
 ·obtain⟨ox,o,mA,J,hl,rA⟩:=ur I.hok hx hd
  exact TK.b9 (Nat.le_refl s.toks) (PySem.W.kia_tup (qa (ox:=ox) (od:=some o) Z) I.kK J e1 hk (λz=>nomatch z) λtk hup=>⟨.bl b,H,I.tok tk,rfl,q⟩)
end L2
namespace GP
open PySem L2 iX
theorem tw{x y:Str}(h:x.cps.toList=y.cps.toList):x=y:=wQ (Array.toList_inj.mp h)
theorem fD(x y:Str):(x++y).cps.toList=x.cps.toList++y.cps.toList:=by
 show(x.cps++y.cps).toList=_
 rw[Array.toList_append]
theorem dX(x y:Str):(x++y).cps.size=x.cps.size+y.cps.size:=by
 rw[←Array.length_toList,fD,List.length_append,Array.length_toList,Array.length_toList]
end GP
namespace GP
open PySem L2 iX
theorem GX{K:PySem.W.Frag}{t:Value}:PySem.W.kitAny K t []=some false:=rfl
theorem qg{K:PySem.W.Frag}{t c:Value}{r:List Value}{b:Bool}(h:PySem.W.kitOne K t c=some false)(h':PySem.W.kitAny K t r=some b):PySem.W.kitAny K t (c::r)=some b:=by
 unfold PySem.W.kitAny
 rw[h]
 exact h'
end GP
namespace GP
open PySem L2 iX
end GP
namespace L2
open PySem PySem.Spec PyProof.Rows
section
variable{X:Cx}{tg:Expr}
end
end L2
namespace GP
open PySem L2 iX
end GP
namespace L2
open PySem PySem.Spec PyProof.Rows
def wK(K:PySem.W.Frag)(t:Nat):Bool:=match K.lookup mainGlobals with
 |some ⟨_,_,.dict es _,_⟩=>es.all λe=>match e.val with| .str _ u=>Nat.blt u t&& !(Nat.beq u 0)|_=>true
 |_=>false
theorem A6{f:Str->Value->Bool}{es:Array DictEntry}{n:Str}{v:Value}(h:PySem.findBy f es n=some v):∃e∈es,e.val=v:=by
 unfold PySem.findBy at h
 obtain⟨e,he,rfl⟩:=Option.map_eq_some_iff.mp h
 exact⟨e,Array.mem_of_find?_eq_some he,rfl⟩
theorem Gj{K:PySem.W.Frag}{h:Heap}{mg:Str->Option Value}{t:Nat}(KX:K.In h)(hns:h.Ns mainGlobals mg)(c:wK K t=true):zP mg t:=by
 obtain⟨o,es,ep,e,d,_,hm⟩:=hns
 unfold wK at c
 split at c
 ·rename_i cl dd es' Oa sl hl
  have e':=KX _ _ hl
  rw[e]at e'
  cases e'
  cases d
  intro x v u hx
  obtain⟨en,hen,ev⟩:=A6 ((hm x).trans hx)
  have z:=Array.all_eq_true'.mp c en hen
  rw[ev]at z
  simp only[Bool.and_eq_true,Nat.blt_eq,Bool.not_eq_true']at z
  exact⟨z.1,λq=>by rw[q]at z;exact absurd z.2 (by decide)⟩
 ·cases c
theorem DY{l:PySem.W.OpenLaw}{n k N t:Nat}{q:Program}{loose:List Str}{XP:(Str->Option Value)->Heap->Prop}{as:List Addr}{d:DefRec}{K:Params->PySem.W.Frag}{CX:World->yu}{sp:World->Sp}{x:Str}
  (hn:l.most=some n) (hn2:n<=sizeLine) (hdf:d.params.defaults=[]) (hr:jd k callerA)
  (hk:∀P,as=(K P).map (·.1)) (ht:∀P,wK (K P) t=true)
  (F:∀(w:World) (mg:Str->Option Value) (fa:Addr) (h:Heap),(K w.params).In h->h.Ns mainGlobals mg->mg d.name=some (.ref fa) →
   ∃fd:FuncData,(∀(s:Shared) (u:Value),BindsTo s fd ⟨[u],[]⟩ [(x,u)]) ∧
    ∀base:Heap,(K w.params).In base->base.Ns mainGlobals mg->aW l.prog w (K w.params) mg base (CX w) k fa fd [x] (sp w))
  (zw:∀(w:World) (H:Hp) (a:Addr) (ns:List Int),ns.length<=n->KL H->bX (K w.params) H a (ns.map V.int)->sp w [.ref a] H (λv _=>v= .bl true) λ_ _ _=>False)
  (Sf:∀(w:World) (H:Hp) (s:Shared) (e:Value) (s':Shared),CX w [] H s (λ_ _ _=>False) e s'->False) :
  PySem.W.WalkX q loose XP (PySem.W.X.obsZ as) (PySem.W.X.valZ K N t) l.row.toRowW d [] (λf vs=>PySem.call f vs):=by
 intro w s₀ s₁ mg mb G y fa o pm cd doc dV kV ho hd hcd hD hmg hg args vals as' L hpre hlay hrd hwl hlo
 have Z:=PySem.W.X.z_facts hk y
 have tk:t<=s₁.toks:=by
  obtain⟨ord,_,e⟩:=L.laid
  have g:=(PySem.W.layAllW_grows _ _ _ e).toks
  rw[Z.2.2.2]at g
  exact g
 have KX:(K w.params).In s₁.heap:=PySem.W.InK.keeps w s₀.heap s₁.heap Z.2.1 L.keeps
 obtain rfl:dV= .none:=PySem.W.Dflts.none hD hdf
 obtain rfl:kV= .none:=PySem.W.Dflts.noKw hD
 obtain⟨a,vs,ns,rfl,rfl,hobj,hints,hlen⟩:=SN.CM hn hpre hwl
 obtain⟨fd,hb,hF⟩:=F w mg fa _ KX G.T.g hmg
 refine PySem.W.enter_call (codeAny_mono (E6 KX G.T.g G.T.b G.T.builtins G.T.nolimit hg ((Gj KX G.T.g (ht _)).mono tk) hobj hints (Nat.le_trans hlen hn2) hr hF hb (λH hO hS=>zw w H a ns hlen hO hS) λH e s'=>Sf w H s₁ e s') λr s' hq=>?_)
 obtain⟨rfl,h2,h3,h4⟩:=hq
 exact⟨.inl ⟨.bool true,.bool true,[],rfl,λ_=>rfl,.bool true,SN.CU l _,λ_=>⟨List.Pairwise.nil,λ_ hm=>(nomatch hm)⟩⟩,h2,h3,h4⟩
end L2
namespace L2
open PySem PySem.Spec PyProof.Rows
section
variable{X:Cx}{o:Expr}{to:TE}{g:Str}{c j:Nat}{u:Tok}{apos cpos p1 p2:Pos}
end
end L2
namespace L2
open PySem PySem.Spec PyProof.Rows
theorem JD {X:Cx} {K':PySem.W.Frag} {T id:String} {name:Str} {o e:Expr} {es:List Expr} {to:TE} {t:TA} {apos cpos:Pos} {r:V->List V->Hp->VK->Prop} (hK:X.K=K') (pa:PlainAttrs T) (slot:Slot T name id) (hty:typeOf (.builtin id)=pure (.type "method_descriptor")) (hm:K9 X id r) (ho:PE X o to) (ha:PA X (e::es) t)
  (hbase:attributeBase o name X.env (eval o X.env)=eval o X.env:=by rfl)
  (hfew:((backTo cpos (starEach (e::es) X.env)).all (λx=>!x.1)&&(backToKw cpos (keywordEach [] X.env)).all (λx=>x.1.isSome)
   && decide ((e::es).length+([]:List Keyword).length+(if([]:List Keyword).isEmpty then 0 else 1)<30))=true:=by rfl)
  (hline:(apos.endLine==cpos.line)=true:=by rfl) (hs:starEach (e::es) X.env=(false,eval e X.env)::starEach es X.env:=by rfl) (hplain:(backTo cpos (starEach es X.env)).any (·.1)=false:=by rfl) :
  PE X (.Call (.Attribute o name apos) (e::es) [] cpos) (SY K' T r to t):=by subst hK;exact gD pa slot hty hm ho ha hbase hfew hline hs hplain
theorem yR{X:Cx}{K':PySem.W.Frag}{tg l:Expr}{tl:TE}(hK:X.K=K')(hl:PE X l tl):PI X tg l (HW K' tl):=by subst hK;exact kJ hl
end L2
namespace L2
open PySem PySem.Spec PyProof.Rows
theorem qZ{J:It}{g:TG}{te:TE}{σ':St}{H1:Hp}{D:Hp->Prop}{l:Addr}(n:Nat)(f:Nat->V)(hl:H1 l=none)(hn:n<sizeLine)
  (go:∀i H,ai H1 H->i<n->J.go i H) (st:∀H,ai H1 H->J.stop n H)
  (el:∀i x H H3 (R:VK),ai H1 H->i<n->J.Bl i H x H3->(∀H5,ai H H5->R (f i) H5)->g x σ' H3 λBf H4=>Kp σ' Bf/\te Bf H4 R)
  (fin:∀H',ai H1 H'->H' l=some (.lst ((List.range n).map f))->D H') :
  ∃W:Nat->Nat->List V->Hp->Prop,(∃m,W 0 m [] (upd H1 l (.lst [])))/\∀i m ys H2,W i m ys H2->(J.stop i H2/\D H2) ∨
   (J.go i H2/\∀x H3,J.Bl i H2 x H3->g x σ' H3 λBf H4=>Kp σ' Bf/\te Bf H4 λy H5=>H5 l=some (.lst ys)/\ys.length<sizeLine/\∃m',m'<m/\W (i+1) m' (ys++[y]) (upd H5 l (.lst (ys++[y])))):=by
 refine⟨λi m ys H2=>m=n-i/\i<=n/\ys=(List.range i).map f/\ai H1 H2/\H2 l=some (.lst ys),⟨n,rfl,Nat.zero_le _,rfl,GP.ai.upd hl,af⟩,?_⟩
 rintro i m ys H2 ⟨rfl,hi,rfl,s2,h2⟩
 by_cases hlt:i<n
 ·refine .inr ⟨go i H2 s2 hlt,λx H3 y=>el i x H2 H3 _ s2 hlt y λH5 s5=>?_⟩
  refine⟨s5 _ _ h2,by rw[List.length_map,List.length_range];omega,n-(i+1),by omega,rfl,hlt,?_,GP.ai.at (s2.trans s5) hl,af⟩
  rw[List.range_succ,List.map_append];rfl
 ·have e:i=n:=by omega
  subst e
  exact .inl ⟨st H2 s2,fin H2 s2 h2⟩
end L2
namespace GP
open PySem L2 iX
end GP
namespace L2
open PySem PySem.Spec PyProof.Rows
theorem EN{X:Cx}:mL X (binaryOp .Add) (λx y H Q=>∃a b ys,x= .ref a/\y= .ref b/\cL X.K H a []/\cL X.K H b ys/\Q (.ref b) H):=by
 intro pins s σ H x y v u Q I rx ry h
 obtain⟨a,b,ys,rfl,rfl,ha,hb,q⟩:=h
 cases rx
 cases ry
 obtain⟨its,r1,p1,_⟩:=I.tuple ha
 obtain⟨its2,r2,p2,z2⟩:=I.tuple hb
 cases r1
 obtain⟨⟨cls,dd,data,sl⟩,ho,hc,n,hd⟩:=id p1
 obtain⟨⟨Sy,dd2,data2,sl2⟩,ho2,hc2,n2,hd2⟩:=id p2
 simp only at hc hd hc2 hd2
 subst hc hd hc2 hd2
 exact concat_meets ⟨_,ho,rfl⟩ ⟨_,ho2,rfl⟩ noFill_tuple_add seq_tuple_add PySem.F.slot_tuple_add PySem.F.entry_tuple_add (PySem.F.args_tuple_add_2 _ _) (tuple_addW0 a b _ _ n n2 dd dd2 sl sl2 (by simp)) ⟨ho,ho2,.ref b,H,I,rfl,q⟩
theorem yU{X:Cx}:mL X (binaryOp .Add) (λx y H Q=>HL X.K x y H Q\/∃a b ys,x= .ref a/\y= .ref b/\cL X.K H a []/\cL X.K H b ys/\Q (.ref b) H):=GF.or EN
end L2
namespace GP
open PySem L2 iX
end GP
namespace GP
open PySem L2 iX
end GP
namespace L2
open PySem PySem.Spec PyProof.Rows
theorem xP{X:Cx}:iV X (.builtin "isinstance") (λxs H Q=>∃b C dx fs,xs=[.ref b,.ref C]/\H b=some (.ins C dx fs)/\PySem.W.isIn X.K (.ref C) C=true/\Q (.bl true) H):=by
 intro pins s σ H xs us Q I r h
 obtain⟨b,C,dx,fs,rfl,hb,e,q⟩:=h
 obtain⟨u,w',rfl,rx,rn⟩:=vals2 r
 cases (show u=Value.ref b from rx)
 cases (show w'=Value.ref C from rn)
 obtain⟨mA,J,_⟩:=sQ I.hok hb
 obtain⟨od,J',_⟩:=J.look
 exact PySem.W.isi_call I.kK (λM=>J'.type) e (λz=>nomatch z) ⟨.bl true,H,I,rfl,q⟩
end L2
namespace GP
open PySem L2 iX
end GP
namespace GP
open PySem L2 iX
end GP
namespace GP
open PySem L2 iX
end GP
namespace GP
open PySem L2 iX
end GP
namespace GP
open PySem L2 iX
end GP
namespace GP
open PySem L2 iX
end GP
namespace L2
end L2
namespace L2
open PySem PySem.Spec PyProof.Rows
structure mG(k:Nat)(A:Around):Prop where
 dp:A.depth+3*k+5<recursionLimit
 un:A.units+16*k+200<cLine
theorem jd.n{k:Nat}{A:Around}(r:jd k A)(h:Option Value):mG k (A.mark h):=⟨r.dp,r.un⟩
theorem mG.deeper{k:Nat}{A:Around}(r:mG (k+1) A)(env:Env):mG k (A.deeper env) :=
 ⟨by have:=r.dp;show A.depth+1+3*k+5<_;omega,by have:=r.un;show A.units+3+16*k+200<_;omega⟩
theorem mG.make{k:Nat}{A:Around}(r:mG (k+1) A)(C:Addr)(us:List Value)(kw:List (Str×Value)):mG k (A.under (.builtin "type.__call__" ⟨.ref C::us,kw⟩)) :=
 ⟨by have:=r.dp;rw[ue];omega,by have:=r.un;rw[ud];omega⟩
theorem mG.depth{k:Nat}{A:Around}(r:mG k A):A.depth<recursionLimit:=by have:=r.dp;omega
structure z5(P:Program)(w:World)(K:PySem.W.Frag)(mg:Str->Option Value)(base:Heap)(CX:yu)(k:Nat)(f:Addr)(fd:FuncData)(ps:List Str)(sp:Sp):Prop where
 len:∀vs H Q E,sp vs H Q E->vs.length=ps.length
 run:∀(A:Around) (outer:List Env) (s:Shared) (H:Hp) (args:Args) (us:List Value) (vs:List V) (Q:VK) (E:XK),mG k A->yl P w K mg base A outer s H->BindsTo s fd args (ps.zip us)->Vals vs us->sp vs H Q E →
  codeAny (model P w) A (.call (.ref f) args) (CR CX outer P w H s Q E) s
def K7(CX:yu)(P:Program)(w:World)(K:PySem.W.Frag)(mg:Str->Option Value)(base:Heap)(N:List Str)(qual:Str)(scope:Scope)(f:Addr)(cd:Value)(A:Around)(outer:List Env)(s:Shared)(H:Hp)(E:XK):Cx where
 prog:=P
 w:=w
 K:=K
 mg:=mg
 base:=base
 A:=A.deeper (envOfC qual scope s.heap.objs.size f cd)
 N:=N
 s₀:=s
 H₀:=H
 env:=envOfC qual scope s.heap.objs.size f cd
 outer:=outer
 stack:=envOfC qual scope s.heap.objs.size f cd::outer
 ex:=[]
 calm:=false
 fn:=λ_=>true
 pn:=[]
 xe:=λe s'=>wpAny (model P w) (A.deeper (envOfC qual scope s.heap.objs.size f cd)) (leaving (envOfC qual scope s.heap.objs.size f cd) e) (λ_ s''=>CX outer H s E e s'') (λe' s''=>CX outer H s E e' s'') s'
theorem AX{CX:yu}{P:Program}{w:World}{K:PySem.W.Frag}{mg:Str->Option Value}{base:Heap}{N ps:List Str}{qual:Str}{scope:Scope}{f:Addr}{cd:Value}{A:Around}{outer:List Env}{s s1:Shared}{H:Hp}{E:XK}{us:List Value}{vs:List V}
  (S:aP N ps scope) (e0:yl P w K mg base A outer s H) (hl:vs.length=ps.length) (r:Vals vs us)
  (x:InCallC s s.heap.objs.size (bindL (envOfC qual scope s.heap.objs.size f cd).kindOf (ps.zip us) λ_=>none) (cellsFrom (s.heap.objs.size+1) scope.names []) (bindC (envOfC qual scope s.heap.objs.size f cd).kindOf (ps.zip us) λ_=>none) s1) (hup:s.toks<=s1.toks) :
  Inv (K7 CX P w K mg base N qual scope f cd A outer s H E) [] (start N vs) H s1:=by
 have hpl:ps.length<=N.length:=by have:=congrArg List.length S.pre;rw[List.length_take]at this;omega
 obtain⟨h1,tk,rfl,hk⟩:=x.done
 have htk:s.toks<=tk:=hup
 have GI:∀b:Addr,b∉(K7 CX P w K mg base N qual scope f cd A outer s H E).ex:=λb z=>absurd (show b∈([]:List Addr) from z) (by simp)
 refine⟨⟨e0.mod,S.kind,rfl,rfl,Nat.le_refl _,λy z c h1 h2=>?_,λy hy=>?_,λy c _ h=>?_,(λz=>nomatch z),Around.frames_deeper e0.frames,.inr ⟨rfl,rfl⟩,λb z=>absurd z (GI b),e0.bs,e0.DQ,λb _ _=>GI b,λb z=>absurd z (GI b),e0.oj,e0.F6,e0.tk⟩,
  rfl,e0.bare,Un.kept hk,⟨_,x.toInCall.ns,λi y v h1 h2 h3=>?_⟩,λy c h=>⟨_,x.cell y c h⟩,e0.hok.fresh (Nat.le_refl _),λy c h=>?_,λp hp=>absurd (show p∈([]:List (Addr×Obj)) from hp) (by simp),e0.hok.kept hk,?_,htk⟩
 ·exact name_of_addr x.apart (PySem.mem_of_lookup h1) (PySem.mem_of_lookup h2)
 ·have hy:scope.names.lookup y=some .cell\/scope.names.lookup y=some .free:=hy
  rcases hy with hy|hy
  ·exact qo hy
  ·exact absurd rfl (S.ER _ (PySem.mem_of_lookup hy))
 ·exact Nat.le_of_lt (x.above y c (PySem.mem_of_lookup h))
 ·have hi:i<vs.length:=by
   unfold start at h2
   by_cases hi:i<vs.length
   ·exact hi
   ·rw[List.getElem?_append_right (by simpa using hi)]at h2
    rw[List.getElem?_replicate]at h2
    split at h2<;>cases h2
  have ha:vs[i]? =some v:=by
   unfold start at h2
   rw[List.getElem?_append_left (by simpa using hi),List.getElem?_map]at h2
   cases e:vs[i]? with
   |none=>rw[e]at h2;cases h2
   |some a=>rw[e]at h2;cases h2;rfl
  obtain⟨u,hu,rv⟩:=r.get ha
  have hp:ps[i]? =some y:=by
   rw[←S.pre,List.getElem?_take_of_lt (by omega)];exact h1
  have L7:ps.Nodup:=by rw[←S.pre];exact S.nd.sublist (List.take_sublist _ _)
  refine⟨u,rv,?_⟩
  rcases S.par y (List.mem_of_getElem? hp)with k|k
  ·exact .inl ⟨k,q8 L7 hp hu k⟩
  ·obtain⟨c,e⟩:=qo (n:=s.heap.objs.size+1) k
   refine .inr ⟨.inl k,c,e,?_⟩
   have q:=x.cell y c e
   rw[q9 L7 hp hu (by show scope.names.lookup y≠_;rw[k];decide)]at q
   exact q
 ·exact e0.hok.fresh (Nat.le_of_lt (x.above y c (PySem.mem_of_lookup h)))
 ·unfold start
  show _=N.length
  rw[List.length_append,List.length_map,List.length_replicate]
  omega
theorem Ks{CX:yu}{P:Program}{w:World}{K:PySem.W.Frag}{mg:Str->Option Value}{base:Heap}{k:Nat}{f:Addr}{name qual:Str}{params:Arguments}{body:List Stmt}{scope:Scope}{dV kV doc pm cdv ct oc:Value}{an od:Option Addr}
  {osl:Array (Option Value)} {N ps:List Str} {sp:Sp} (lk:K.lookup f=some ⟨oc,od,.func (PySem.W.fnOf name qual params body scope dV kV doc pm an cdv ct),osl⟩) (hcd:PySem.W.codeIn K cdv qual=true) (S:aP N ps scope)
  (len:∀vs H Q E,sp vs H Q E->vs.length=ps.length)
  (hbody:∀(A:Around) (outer:List Env) (s:Shared) (H:Hp) (vs:List V) (Q:VK) (E:XK),mG k (A.deeper (envOfC qual scope s.heap.objs.size f cdv))->sp vs H Q E →
   ∃t,vt (K7 CX P w K mg base N qual scope f cdv A outer s H E) body t/\t { nx:=λ_ H'=>Q .gx H',rt:=Q } (start N vs) H) :
  z5 P w K mg base CX (k+1) f (PySem.W.fnOf name qual params body scope dV kV doc pm an cdv ct) ps sp:=by
 refine⟨len,λA outer s H args us vs Q E hr e0 hb r zw=>?_⟩
 have hl:=len _ _ _ _ zw
 have KX:K.In s.heap:=e0.mod.E8.keeps λb o e=>(e0.bs b o e).1
 have lim:s.heap.NoLimit:=e0.mod.nolimit.keeps λb o e=>(e0.bs b o e).1
 have hkind:∀y∈ps.zip us,scope.names.lookup y.1=some .local\/(scope.names.lookup y.1=some .cell/\((cellsFrom (s.heap.objs.size+1) scope.names []).lookup y.1).isSome=true):=λ⟨n,v⟩ hy=>by
  rcases S.par n (List.of_mem_zip hy).1 with q|q
  ·exact .inl q
  ·exact .inr ⟨q,PySem.W.cellsFrom_some _ _ _ (.inl q)⟩
 refine TK.uI (Nat.le_refl _) ?_
 refine codeAny_call_function hr.depth (KX _ _ lk) rfl S.co S.gen rfl (PySem.W.codeRec_of KX hcd) (hb _ _ _ _ ?_)
 refine TK.b9 (Nat.le_refl _) (wpAny_newFunctionEnv_cells S.kind hkind λenv he s1 x hup=>?_)
 subst he
 refine⟨lim.keeps x.toInCall.keep,codeAny_func ?_⟩
 obtain⟨t,ht,hq⟩:=hbody A outer s H vs Q E (hr.deeper _) zw
 have I:Inv (K7 CX P w K mg base N qual scope f cdv A outer s H E) [] (start N vs) H s1:=AX S e0 hl r x hup
 refine wpAny_mono (ht [] s1 (start N vs) H _ I hq) (λfl s' hs JX=>?_) λe s' hs=>wpAny_mono hs (λ_ _ z _=>z) λ_ _ z _=>z
 have fin:∀{σ':St} {H':Hp} {v:V} {u:Value},Inv (K7 CX P w K mg base N qual scope f cdv A outer s H E) [] σ' H' s'->RelV v u->Q v H'->CE outer P w H s Q u s' :=
  λ{σ' H' v u} J rv q=>⟨v,H',J.os,J.bare,J.base,J.hok,rv,JX,q⟩
 cases fl with
 |ret u =>
  obtain⟨v,σ',H',J,rv,q⟩:=hs
  exact fin J rv q
 |next =>
  obtain⟨σ',H',J,q⟩:=hs
  exact fin (v:=V.gx) (u:=Value.none) J rfl q
 |brk =>
  obtain⟨_,_,_,q⟩:=hs
  exact False.elim q
 |cont =>
  obtain⟨_,_,_,q⟩:=hs
  exact False.elim q
theorem DT.okN{P:Program}{w:World}{K:PySem.W.Frag}{mg:Str->Option Value}{base:Heap}{x qual:Str}{st:Stmt}{f:Addr}{fd:FuncData}{N ps:List Str}{k:Nat}{sp:Sp}(F:DT K x qual st f fd)(S:aP N ps (aC st))(len:∀vs H Q E,sp vs H Q E->vs.length=ps.length)
  (hbody:∀(cdv:Value) (A:Around) (outer:List Env) (s:Shared) (H:Hp) (vs:List V) (Q:VK) (E:XK),mG k (A.deeper (envOfC qual (aC st) s.heap.objs.size f cdv))->sp vs H Q E →
   ∃t,vt (K7 (sS P w) P w K mg base N qual (aC st) f cdv A outer s H E) (fW st) t/\t { nx:=λ_ H'=>Q .gx H',rt:=Q } (start N vs) H):z5 P w K mg base (sS P w) (k+1) f fd ps sp:=by
 obtain⟨oc,od,kV,doc,pm,an,cdv,ct,osl,rfl,lk,hcd⟩:=F.ex
 exact Ks lk hcd S len λA outer s H vs Q E hr zw=>hbody cdv A outer s H vs Q E hr zw
def MU(ea:Addr):HO:=.ext λh=>∃c od vs sl,h.get? ea=some ⟨c,od,.fields vs,sl⟩/\vs[2]? =some .none
section
variable{M:Model}{A:Around}{E:Value->Shared->Prop}{env:Env}
variable{nm q:Str}{C N:Addr}{bs bm:List Value}{hdct:Bool}{sn:List Str}{sub:List Value}{ab:Bool}{col:Option Bool}{dd:Option Addr}{k0 k1 k2 k3 k5:Option Value}{newId:String}
theorem vj:entryFor table "proto.unchain" =some Builtin.«proto.unchain» :=entryFor_of_tree (by kernel_rfl)
theorem wI{P:Program}{w:World}{s:Shared}{e:Value}{ea:Addr}{c:Value}{od:Option Addr}{vs:Array Value}{sl:Array (Option Value)}{Q:Value->Shared->Prop}(he:s.heap.get? ea=some ⟨c,od,.fields vs,sl⟩)(h2:vs[2]? =some .none)
  (h:Q .none s):wpAny (model P w) A (runValue (.builtin "proto.unchain" ⟨[e,.ref ea,.ref ea,.bool false],[]⟩)) Q E s:=by
 refine wpAny_runValue (codeAny_builtin vj ?_)
 unfold Builtin.«proto.unchain»
 dsimp only
 refine wpAny_bind (wpAny_field he rfl h2 ?_)
 repeat (first|exact h|wp_step)
theorem Aw {P:Program} {w:World} {s:Shared} {x y:Sem Value} {Q:Flow->Shared->Prop} {h:Addr} (hbase:bm.contains (.type "BaseException")=true) (hh:A.handled=some (.ref h)) (hy:∀{s:Shared} {Q:Value->Shared->Prop},Q .none s->wpAny (model P w) A y Q E s)
  (hx:wpAny (model P w) A x (λv s₁=>∃e od vs sl,v= .ref e/\s₁.heap.get? C=some (excClassObj nm q C N bs bm hdct sn sub ab col dd k0 k1 k2 k3 k5 newId) ∧
   s₁.heap.get? e=some ⟨.ref C,od,.fields vs,sl⟩/\vs[1]? =some .none/\4<vs.size/\e≠h/\(∃c od' vs' yo,s₁.heap.get? h=some ⟨c,od',.fields vs',yo⟩/\vs'[2]? =some .none) ∧
   ∀h' vs',(∀b,b≠e->h'.get? b=s₁.heap.get? b)->h'.objs.size=s₁.heap.objs.size->h'.get? e=some ⟨.ref C,od,.fields vs',sl⟩->vs'[1]? =some .none->E (.ref e) { s₁ with heap:=h' }) E s):wpAny (model P w) A (raiseStmt env (some x) (some y)) Q E s:=by
 have RY:(Value.ref C::bm).contains (.type "BaseException")=true:=by rw[List.contains_cons,hbase,Bool.or_true]
 unfold raiseStmt
 refine wpAny_bind (wpAny_mono hx (λv s₁ h₁=>?_) λ_ _ x=>x)
 obtain⟨e,od,vs,sl,rfl,hC,he,hv,hs,ne,⟨c,od',vs',yo,VP,h2⟩,hE⟩:=h₁
 refine wpAny_bind (wpAny_holding (hy (wpAny_bind (wpAny_pure ?_))))
 dsimp only
 obtain⟨hp,g,d,tk,os⟩:=s₁
 have WN:3<vs.size:=by omega
 have L4:C≠e:=λz=>by
  subst z
  rw[hC]at he
  cases he
 repeat (first|with_reducible refine wpAny_loadPart_at he ?_|with_reducible refine wpAny_loadPart_at hC ?_|(with_reducible refine wpAny_isSubtype_exc hC ?_;rw[RY])|wp_step)
 have JF:∀b,b≠e->((hp.update e (Obj.mapFields λx=>x.setIfInBounds 3 Value.none)).update e (Obj.mapFields λx=>x.setIfInBounds 4 (Value.bool true))).get? b=hp.get? b:=λb hb=>(Heap.get?_update_other _ _ (Ne.symm hb)).trans (Heap.get?_update_other _ _ (Ne.symm hb))
 have e2:((hp.update e (Obj.mapFields λx=>x.setIfInBounds 3 Value.none)).update e (Obj.mapFields λx=>x.setIfInBounds 4 (Value.bool true))).get? e=some ⟨.ref C,od,.fields ((vs.setIfInBounds 3 Value.none).setIfInBounds 4 (Value.bool true)),sl⟩ :=
  Heap.get?_update_self _ (Heap.get?_update_self (Obj.mapFields (·.setIfInBounds 3 Value.none)) he rfl) rfl
 have sz:((hp.update e (Obj.mapFields λx=>x.setIfInBounds 3 Value.none)).update e (Obj.mapFields λx=>x.setIfInBounds 4 (Value.bool true))).objs.size=hp.objs.size:=(Heap.size_after_update ..).trans (Heap.size_after_update ..)
 generalize ((hp.update e (Obj.mapFields λx=>x.setIfInBounds 3 Value.none)).update e (Obj.mapFields λx=>x.setIfInBounds 4 (Value.bool true)))=h3 at JF e2 sz ⊢
 dsimp only
 have v1:((vs.setIfInBounds 3 Value.none).setIfInBounds 4 (Value.bool true))[1]? =some Value.none:=by simp[hv]
 have v2:2<((vs.setIfInBounds 3 Value.none).setIfInBounds 4 (Value.bool true)).size:=by simp;omega
 generalize ((vs.setIfInBounds 3 Value.none).setIfInBounds 4 (Value.bool true))=us at e2 v1 v2 ⊢
 rw[v1]
 refine wpAny_pure ?_
 rw[if_neg (by decide)]
 refine wpAny_pure ?_
 unfold raiseNew
 refine wpAny_bind (wpAny_handled ?_)
 rw[hh]
 dsimp only
 rw[if_pos (show(Value.ref h != Value.ref e)=true by simp[Ne.symm ne])]
 refine wpAny_bind (wpAny_holding (wI ((JF h (Ne.symm ne)).trans VP) h2 ?_))
 refine wpAny_bind ?_
 show wpAny _ _ (setField (.ref e) 2 (.ref h)) _ _ _
 refine wpAny_setField e2 rfl v2 ?_
 refine wpAny_throw (hE _ (us.setIfInBounds 2 (.ref h)) (λb hb=>(Heap.get?_update_other _ _ (Ne.symm hb)).trans (JF b hb)) ((Heap.size_after_update ..).trans sz) (Heap.get?_update_self _ e2 rfl) ?_)
 rw[Array.getElem?_setIfInBounds_ne (by decide)]
 exact v1
end
def Gm(K:PySem.W.Frag)(C D:Addr)(sp:Sp)(E:St->XK)(t:TA)(th:TH):TH:=λcls od De σ H=>∃Ce b,cls= .ref Ce/\PySem.W.subIn K (.ref Ce) (.ref C)=some b ∧
 if b=true then od=none/\∀ea,H ea=none->t σ (upd H ea (MU ea)) λvs H1=>vs.length<=sizeLine/\H1 ea=some (MU ea)/\∀e,H1 e=none →
  sp (.ref e::vs) (upd H1 e (newX e D none)) (λv H2=>v= .gx/\H2 ea=some (MU ea)/\∃dx,H2 e=some (newX e D (some dx))/\E σ (.ref D) (some dx) (del (del H2 e) ea)) (λ_ _ _=>False)
 else th cls od De σ H
theorem CV{X:Cx}{E:St->XK}{C D f:Addr}{x y:Str}{np yp cpos rpos pos cp:Pos}{cj}{k:Nat}{fd:FuncData}{ps:List Str}{sp:Sp}{e:Expr}{es:List Expr}{rest:List ExceptHandler}{t:TA}{th:TH}(FM:Fm X)(L:Lets X E)(M:K8 X.K D f)
  (F:z5 X.prog X.w X.K X.mg X.base (sS X.prog X.w) k f fd ps sp) (hr:jd (k+1) X.A) (T5:X.calm=true) (hb:Binds X.K fd ps [])
  (hg:Gl X x) (hm:X.mg x=some (.ref C)) (A0:XB X.K C) (hg':Gl X y) (hm':X.mg y=some (.ref D)) (ha:∀ea,PA (X.within ea) (e::es) t) (hrest:PH X rest th) (hdb:(x==("__debug__" :Str))=false:=by decide) (RU:(y==("__debug__" :Str))=false:=by decide)
  (he:starEach (e::es) X.env=(false,eval e X.env)::starEach es X.env:=by rfl) (hpl:(backTo cpos (starEach es X.env)).any (·.1)=false:=by rfl) :
  PH X (.ExceptHandler (some (.Name x np)) none [.Raise (some (.Call (.Name y yp) (e::es) [] cpos)) (some (.Constant .none cj cp)) rpos] pos::rest) (Gm X.K C D sp E t th):=by
 intro pins s σ H De ea cls od I x h
 obtain⟨Ce,b,rfl,hk,h⟩:=h
 obtain⟨pe,vs,sl,V8,hT⟩:=id x
 refine wpAny_handleBy_cons (codeAny_handlers_test (jA (X:=X.within ea) (I.within ea) hg hm ?_ hdb)) (by intro q;cases q)
 refine we I.kK V8 rfl hk A0 ?_
 cases b with
 |false=>exact hrest pins s σ H De ea _ od I x h
 |true =>
  obtain⟨rfl,h⟩:=h
  refine codeAny_handlers_suite ?_
  refine iI (fr:=frs X.stack) x λh1 n1 x1=>?_
  have I1:=I.noted n1
  obtain⟨LQ,Oq,Ls,Kf,c2,_⟩:=id x1
  have I2:Inv X pins σ (upd H ea (MU ea)) { s with heap:=h1 }:=I1.wJ LQ ⟨⟨_,_,Oq,Ls,Kf,c2 rfl⟩,⟨_,Kf⟩,λh1 h2 ⟨c,o,v,s',e,z⟩ k=>⟨c,o,v,s',k _ e,z⟩⟩
  have IW:=I2.within ea
  obtain⟨d,hC,hN,hni,T⟩:=M.cls.obj X.base I.ok.mod.E8
  have FB:=PySem.F.excBase_ValueError
  refine wpAny_execs_cons ?_
  rw[arm_exec_Raise]
  simp only[evalOpt,Option.map]
  refine wpAny_bind (wpAny_standAt (Aw (h:=ea) (C:=D) (nm:=d.nm) (q:=d.q) (N:=d.N) (bs:=d.bs) (bm:=d.bm) (hdct:=d.hdct) (sn:=d.sn) (sub:=d.sub) (ab:=d.ab) (col:=d.col) (dd:=d.dd) (k0:=d.k0) (k1:=d.k1) (k2:=d.k2) (k3:=d.k3) (k5:=d.k5) (newId:= "ValueError.__new__") (T.hasType FB.hasBase) rfl
   (λq=>wpAny_bind (Constant_none (wpAny_bind (wpAny_standAt (wpAny_pure q))))) ?_))
  refine wpAny_bind (wpAny_Call_Name_kw (jA IW hg' hm' ?_ RU))
  refine PySem.W.callWith_K (h₀:=X.base) I.ok.mod.E8 M.kp (wpAny_mono (ha ea cpos pins _ σ _ _ IW (h ea LQ.1)) (λus s1 ⟨vs,H1,J,r,hl,hex,q1⟩=>⟨J.kK,?_⟩) λ_ _ z=>False.elim z) he hpl
  have hfo:∃o,s1.heap.get? f=some o/\o.cls= .type "function" :=by
   obtain⟨o,ho,hc⟩:=Option.map_eq_some_iff.mp (beq_iff_eq.mp M.fn)
   exact⟨o,J.kK _ _ ho,hc⟩
  obtain⟨oI,hfo,hfc⟩:=hfo
  have J':=J
  obtain⟨hh,gs,dr,tk,os⟩:=s1
  refine wu (N:=d.N) (mN:=d.mN) FB FB.hasB FB (T.keeps J.bk) (J.bk _ _ hC) (hN.keeps J.bk) hni hfo hfc (λh' e0 made=>?_) (by show us.length<=sizeLine;rw[←r.length];exact hl)
  obtain⟨t',ht,_,_⟩:=made.there
  have xo:=J.KQ made.new (J.hok.none_of made.new)
  have J0:Inv (X.within ea) pins σ H1 ⟨h',gs,dr,tk,os⟩:=J.kept (t':=tk) made.keeps
  have J1:Inv (X.within ea) pins σ (upd H1 e0 (newX e0 D none)) ⟨h',gs,dr,tk,os⟩:=J0.wJ xo (sO ht ⟨rfl,rfl,by simp⟩)
  have hq:=q1 e0 xo.1
  have r2:Vals (V.ref e0::vs) (Value.ref e0::us):=.cons rfl r
  have hlen:(Value.ref e0::us).length=ps.length:=by rw[←r2.length];exact F.len _ _ _ _ hq
  refine wpAny_call (codeAny_mono (F.run _ X.stack _ _ ⟨Value.ref e0::us,[]⟩ (Value.ref e0::us) _ _ (λ_ _ _=>False) ((hr.n (some (.ref ea))).make D us []) (J1.FE.make D us []) (by have z:=hb _ (Value.ref e0::us) J1.kK (by rw[List.append_nil];exact hlen);rw[List.append_nil]at z;exact z) r2 hq) λrr s' hq'=>?_)
  cases rr with
  |error e=>obtain⟨_,_,_,_,_,_,_,_,_,_,_,z⟩:=hq';exact False.elim z
  |ok fl =>
   cases fl with
   |ret u =>
    obtain⟨v,H',I3,rv,ev,hx',dx,hx,qE⟩:=J1.after hq'
    subst ev
    obtain⟨⟨vs',yo,he',G9,h2',Wb⟩,_,_⟩:=(show b8 X.prog X.w H' s'.heap e0 (newX e0 D (some dx)) from I3.hok e0 _ hx)
    obtain⟨⟨c9,Vb,UE,UP,VQ,Wc⟩,_,_⟩:=(show b8 X.prog X.w H' s'.heap ea (MU ea) from I3.hok ea _ hx')
    have Tf:e0≠ea:=λz=>by have y:=xo.1;rw[z,hex]at y;cases y
    refine⟨rv,wpAny_bind (wpAny_standAt (wpAny_pure ⟨e0,some dx,vs',yo,rfl,I3.bk _ _ hC,he',G9,Wb,Tf,⟨c9,Vb,UE,UP,VQ,Wc⟩,λh3 UG JF sz ge v1=>?_⟩))⟩
    obtain⟨e1,r1,Lf,hst,h0,hf⟩:=FM
    have I5:Inv X pins σ (del (del H' e0) ea) s':=((I3.behind I.ok).drop hx).drop (by rw[iJ (Ne.symm Tf)];exact hx')
    have Oo:Bb X pins (del (del H' e0) ea) e0:=⟨nG uG,xo.2⟩
    have nd:jO (frs X.stack) (Bb X pins (del (del H' e0) ea)) s'.heap h3:=by
     refine⟨λb o e n f=>(JF b (λz=>n (z▸Oo))).trans e,λb o e n=>⟨o.slots,(JF b λz=>n (z▸Oo)).trans e⟩,λb o e=>?_,Nat.le_of_eq sz.symm⟩
     by_cases z:b=e0
     ·subst z;exact⟨_,ge⟩
     ·exact⟨o,(JF b z).trans e⟩
    have I6:=I5.noted nd
    have x6:z7 h3 (Bb X pins (del (del H' e0) ea)) e0 (.ref D) (some dx):=⟨Oo,UG,yo,ge,(λz=>nomatch z),.inl v1⟩
    show wpAny _ _ (noteFrame (.ref e0) X.env) _ _ _
    refine p8 (s:={ s' with heap:=h3 }) (e0:=e1) (r:=r1) (by rw[←hst];exact I.ok.frames) (by rw[←hst];exact I6.stack) h0 hf x6 (λb hb=>I6.Gd hb) λh4 n4 x7=>?_
    rw[←hst]at n4
    have I7:=I6.noted n4
    obtain⟨_,WD,WG,VR,c7,T7,oT,ts,Wd,_⟩:=id x7
    show wpAny _ _ (do
      if(←field (.ref e0) 1)== .none then unsupported "frame.own-activation:exception-without-traceback"
      setFlight (.ref e0) X.env.frame) _ _ _
    refine wpAny_bind (wpAny_field VR rfl Wd ?_)
    rw[if_neg (by simp)]
    refine iI (fr:=frs X.stack) x7 λh5 n5 x8=>?_
    exact L pins σ _ _ e0 (.ref D) (some dx) (I7.noted n5) x8.n qE
   |next=>exact False.elim hq'
   |brk=>exact False.elim hq'
   |cont=>exact False.elim hq'
end L2
namespace L2
open PySem PySem.Spec PyProof.Rows
theorem lI{X:Cx}{K':PySem.W.Frag}(hK:X.K=K'):iV X (.builtin "len") (λxs H Q=>∃x n,xs=[x]/\Hu K' x H n/\Q (.int (n:Int)) H):=by subst hK;exact bL
set_option maxHeartbeats 2000000 in
theorem A8{X:Cx}{E:XK}(F:Fm X)(LX:Lets X λ_=>E){elt tg iter:Expr}{scope:Scope}{pos pos':Pos}{wi:TI}{g:TG}{te:TE}{N:List Str}{lO:St->St}(hc:X.calm=true)(hS:X.Ok->∃cl,cC X scope cl N lO)(hi:PI X tg iter wi)
  (hg:∀cl C s H ex pn E,PG (iK X scope cl C N s H ex pn E) tg g) (he:∀cl C s H ex pn xe,Lets (iK X scope cl C N s H ex pn xe) (λ_=>E)->PE (iK X scope cl C N s H ex pn xe) elt te) (hs:∀x,foldedSetIterable iter X.env x=pure x)
  {pins:List (Addr×Obj)} {s:Shared} {σ:St} {H:Hp} {Q:VK} {use:Option (Value->Sem Unit)} {QQ:Value->Shared->Prop} (I:Inv X pins σ H s) (h:yF wi g te lO σ H Q)
  (Ke:∀(l C:Addr) (mC:Str->Option Value) (H':Hp) (s':Shared),Inv X pins σ H' s'->nM X pins H' C->s'.heap.Ns C mC->Q (.ref l) H'->compPost (model X.prog X.w) X.A X.xe use QQ (.ref l) C (.ok .next) s') :
  wpAny (model X.prog X.w) X.A (comprehension (.ListComp elt [⟨tg,iter,[],0⟩] scope pos) scope X.env pos' (newList []) false (eval iter X.env) use) QQ X.xe s:=by
 obtain⟨cl,S⟩:=hS I.ok
 refine wpAny_comprehension_free (use:=use) rfl hs S.clos S.kind S.names (fK (hi pins s σ H _ I h) λv s1 h1=>fK h1 λitv s2 h2=>?_)
 obtain⟨it,fp,tn,J,H2,e,I2,T,st2,f2,hq⟩:=h2
 subst e
 obtain⟨W,⟨m0,w0⟩,turn⟩:=hq _ I2.fresh
 refine wpAny_newObj_type (zN S λxM h₁ G AZ kp=>?_)
 have I3:Inv X pins σ (upd H2 s2.heap.objs.size (.lst [])) { s2 with heap:=s2.heap.push { cls:=.type "list",data:=.seq ([]:List Value).toArray } }:=I2.E4 (t':=s2.toks) .nil (Nat.zero_le _)
 have yV:∀b o,s2.heap.get? b=some o->(s2.heap.push { cls:=.type "list",data:=.seq ([]:List Value).toArray }).get? b=some o:=λb o e=>Heap.get?_push_of_some _ e
 have f3:∀b∈fp,nM X pins (upd H2 s2.heap.objs.size (.lst [])) b/\b<(s2.heap.push { cls:=.type "list",data:=.seq ([]:List Value).toArray }).objs.size:=λb hb=>by
  obtain⟨o,ho,_⟩:=T.obj _ _ st2 b hb
  have hlt:=Heap.lt_size ho
  obtain⟨f0,f1⟩:=f2 b hb
  exact⟨⟨by rw[az (Nat.ne_of_lt hlt)];exact f0,f1⟩,Heap.lt_size (yV b o ho)⟩
 have st3:tn 0 h₁:=T.keep _ _ _ st2 λb _ o e=>kp b o (yV b o e)
 generalize hR:(λr s'=>compPost (model X.prog X.w) X.A X.xe use QQ (.ref s2.heap.objs.size) (s2.heap.push { cls:=.type "list",data:=.seq ([]:List Value).toArray }).objs.size r s')=R
 generalize mJ:iK X scope xM (s2.heap.push { cls:=.type "list",data:=.seq ([]:List Value).toArray }).objs.size N { s2 with heap:=s2.heap.push { cls:=.type "list",data:=.seq ([]:List Value).toArray } }
  (upd H2 s2.heap.objs.size (.lst [])) fp (X.pn++pins) (notedBy (model X.prog X.w) X.A (compEnvC scope xM (s2.heap.push { cls:=.type "list",data:=.seq ([]:List Value).toArray }).objs.size X.env) λe s'=>R (.error e) s')=X'
 have I4:Inv X' [] (lO σ) (upd H2 s2.heap.objs.size (.lst [])) { s2 with heap:=h₁ }:=by
  subst mJ
  exact zv (s:={ s2 with heap:=s2.heap.push { cls:=.type "list",data:=.seq ([]:List Value).toArray } }) S G I3 f3 kp AZ s2.toks
 have SH:PG X' tg g:=by subst mJ;exact hg _ _ _ _ _ _ _
 have stat:∀{H':Hp},(∀b∈fp,H' b=none)->∀b∈fp,nM X' [] H' b:=λhn b hb=>by
  subst mJ
  obtain⟨⟨_,f1,fn,_,f4,f5⟩,lt⟩:=f3 b hb
  refine⟨hn b hb,Nat.ne_of_lt lt,λz=>?_,.inl hb,λx c e=>(G.look x c e).elim (λz=>Nat.ne_of_gt (Nat.lt_trans lt z.1)) λz=>f4 x c (S.sub x c z),λp hp=>f5 p ?_⟩
  ·rcases List.mem_cons.mp (I3.oX b z)with q|q
   ·exact f1 q
   ·exact fn q
  ·rcases List.mem_append.mp hp with z|z
   ·exact z
   ·cases z
 have hp1:X'.prog=X.prog:=by subst mJ;rfl
 have hp2:X'.w=X.w:=by subst mJ;rfl
 have hp3:X'.K=X.K:=by subst mJ;rfl
 have JY:X'.calm=true:=by subst mJ;exact hc
 have yr:X'.A=X.A:=by subst mJ;rfl
 have Ds:X'.env=compEnvC scope xM (s2.heap.push { cls:=.type "list",data:=.seq ([]:List Value).toArray }).objs.size X.env:=by subst mJ;rfl
 have Fg:X'.xe=notedBy (model X.prog X.w) X.A X'.env λe s'=>R (.error e) s':=by subst mJ;rfl
 have fin:∀{H':Hp} {s':Shared},Inv X' [] (lO σ) H' s'->Q (.ref s2.heap.objs.size) H'->R (.ok .next) s':=by
  intro H' s' I5 q
  subst hR
  obtain⟨mC,Ih,_⟩:=I5.loc
  rw[Ds]at Ih
  have hok:lg X.prog X.w H' s'.heap:=by
   have z:=I5.hok
   rw[hp1,hp2]at z
   exact z
  have u:Un (frs X.stack) fp (upd H2 s2.heap.objs.size (.lst [])) H' (s2.heap.push { cls:=.type "list",data:=.seq ([]:List Value).toArray }) s'.heap:=by
   have z:=I5.base
   subst mJ
   exact z
  have hC:H' (s2.heap.push { cls:=.type "list",data:=.seq ([]:List Value).toArray }).objs.size=none:=by
   have zf:=I5.free
   rw[Ds]at zf
   exact zf
  refine Ke _ _ mC H' s' (I3.Cv (ch:=fp) (s':=s') (by have z:=I5.os;subst mJ;exact z) u hok I5.bare (λb hb=>?_) (by have z:=I5.up;subst mJ;exact Nat.le_trans I3.up z)) (I3.zG (Nat.le_refl _) hC) Ih q
  obtain⟨⟨_,f1,_,MT,f4,f5⟩,_⟩:=f3 b hb
  exact⟨MT,f1,f4,f5⟩
 have loop:∀s3:Shared,Inv X' [] (lO σ) (upd H2 s2.heap.objs.size (.lst [])) s3->tn 0 s3.heap →
   codeAny (model X.prog X.w) X.A (.compLoop (.ListComp elt [⟨tg,iter,[],0⟩] scope pos) 0 (.ref it) (.ref s2.heap.objs.size) X'.env) R s3:=by
  intro s3 J3 t3
  refine codeAny_loop rfl (λn s'=>∃i ys H',Inv X' [] (lO σ) H' s'/\tn i s'.heap/\(∀b∈fp,H' b=none)/\W i n ys H') ?_ m0 ⟨0,[],_,J3,t3,λb hb=>(f3 b hb).1.1,w0⟩
  rintro n s4 ⟨i,ys,H4,J4,t4,n4,w4⟩
  show wpAny _ _ ((compTurn (.ListComp elt [⟨tg,iter,[],0⟩] scope pos) 0 (.ref it) (.ref s2.heap.objs.size) X'.env).onRaise (λx=>do noteFrame x X'.env;theTreesLotGoes x)) _ _ s4
  refine wpAny_noted ?_
  rw[compTurn_list1]
  refine wpAny_bind (wpAny_standAt (wpAny_bind ?_))
  rcases turn i n ys H4 w4 with⟨stop,q⟩|⟨go,step⟩
  ·have z:=T.done X' hp1 hp2 hp3 JY i [] s4 (lO σ) H4 (notedBy (model X.prog X.w) X.A X'.env λe s'=>R (.error e) s') J4 (stat n4) t4 stop
   rw[yr]at z
   refine wpAny_mono z (λr s5 ⟨hr,J5⟩=>?_) λ_ _ x=>x
   subst hr
   exact wpAny_pure (fin J5 q)
  ·have z:=T.item X' hp1 hp2 hp3 JY i [] s4 (lO σ) H4 (notedBy (model X.prog X.w) X.A X'.env λe s'=>R (.error e) s') J4 (stat n4) t4 go
   rw[yr]at z
   refine wpAny_mono z (λr s5 ⟨u,hr,h5⟩=>?_) λ_ _ x=>x
   subst hr
   refine wpAny_bind (wpAny_mono h5 (λ_ s6 ⟨x,H6,J6,r6,y6,t6,n6⟩=>?_) λ_ _ x=>x)
   have SJ:=J6.pinned (stat n6) (T.obj _ _ t6)
   have zg:=SH _ s6 (lO σ) H6 x u _ SJ r6 (step x H6 y6)
   rw[hp1,hp2,yr,Fg]at zg
   refine wpAny_bind (wpAny_mono zg (λ_ s7 ⟨ym,H7,J7,k7,q7⟩=>?_) λ_ _ x=>x)
   have LL:Lets (X'.qv (X'.pn++([]++kc fp s6.heap)) X'.xe) λ_=>E:=by
    intro ps σ' H' s' ea cls od J x hE
    have J0:Inv X' ([]++kc fp s6.heap) σ' H' s':=J.kT J7.ok
    show X'.xe (.ref ea) s'
    rw[Fg]
    show wpAny (model X.prog X.w) X.A (noteFrame (.ref ea) X'.env) (λ_ s''=>R (.error (.ref ea)) s'') _ s'
    obtain⟨e0,r,L,hst,h0,hf⟩:=F
    have G3:X'.stack=e0::r:=by subst mJ;exact hst
    have hfr:=J0.ok.frames
    rw[yr,G3]at hfr
    have hfs:=J0.stack
    rw[G3]at hfs
    have hb0:X'.s₀.heap=s2.heap.push { cls:=.type "list",data:=.seq ([]:List Value).toArray }:=by subst mJ;rfl
    have hex:X'.ex=fp:=by subst mJ;rfl
    have Uo:∀b,Bb X' ([]++kc fp s6.heap) H' b->(s2.heap.push { cls:=.type "list",data:=.seq ([]:List Value).toArray }).get? b=none:=λb k=>by
     rcases k.2.2.2.1 with z|z
     ·rw[←hb0];exact z
     ·rw[hex]at z
      obtain⟨o,e,_⟩:=T.obj _ _ t6 b z
      exact absurd rfl (k.2.2.2.2.2 (b,o) (List.mem_append_right _ (List.mem_append_right _ (iH z e))))
    refine p8 (s:=s') (e0:=e0) (r:=r) hfr hfs h0 (by rw[Ds];exact hf) (x.to λb k=>k.kT) (λb hb=>J0.Gd hb) λh1 n1 x1=>?_
    have J1:=J0.noted (h':=h1) (by rw[G3];exact n1)
    have u0:Un (frs X.stack) fp (upd H2 s2.heap.objs.size (.lst [])) H' (s2.heap.push { cls:=.type "list",data:=.seq ([]:List Value).toArray }) s'.heap:=by
     have z:=J0.base
     subst mJ
     exact z
    have hos:s'.os=s2.os:=by have z:=J0.os;subst mJ;exact z
    have Rk:s2.toks<=s'.toks:=by have z:=J0.up;subst mJ;exact z
    subst hR
    obtain⟨mC,Ih,_⟩:=J1.loc
    rw[Ds]at Ih
    refine⟨mC,Ih,λh' sb cenv _=>?_⟩
    have x2:oB h' (Bb X' ([]++kc fp s6.heap) H') ea cls od:=x1.keeps λb o k e=>(sb.2 b (by have z:=k.2.1;rw[Ds]at z;exact z)).trans e
    refine AD (fr:=[]) x2 λh3 n3 x3=>?_
    have nn:∀b o,(s2.heap.push { cls:=.type "list",data:=.seq ([]:List Value).toArray }).get? b=some o->b∉fp->¬Bb X' ([]++kc fp s6.heap) H' b:=λb o e _ k=>by rw[Uo b k]at e;cases e
    have u3:=((u0.noted n1 nn λb o e z=>by rw[hst];exact z).same (h':=h') λb o e=>sb.2 b (Nat.ne_of_lt (Heap.lt_size e))).noted n3 nn λ_ _ _ z=>nomatch z
    have zf:=J0.free
    rw[Ds]at zf
    have k0:=J0.hok
    rw[hp1,hp2]at k0
    have k1:=(k0.noted n1 (λb k=>k.1) (by rw[←G3];exact J0.sM)).but zf sb
    refine LX pins σ H' _ ea cls od (I3.Cv (ch:=fp) hos u3 (k1.noted n3 (λb k=>k.1) λ_ z=>nomatch z) J0.bare (λb hb=>?_) (Nat.le_trans I3.up Rk)) (x3.n.to λb k=>I3.KQ (Uo b k) k.1) hE
    obtain⟨⟨_,f1,_,MT,f4,f5⟩,_⟩:=f3 b hb
    exact⟨MT,f1,f4,f5⟩
   have SI:PE (X'.qv (X'.pn++([]++kc fp s6.heap)) X'.xe) elt te:=by
    subst mJ
    exact he _ _ _ _ _ _ _ LL
   have ze:=SI [] s7 ym H7 _ J7.qv q7
   have ze:wpAny (model X'.prog X'.w) X'.A (eval elt X'.env) _ X'.xe s7:=ze
   rw[hp1,hp2,yr,Fg]at ze
   refine wpAny_bind (wpAny_bind (wpAny_mono ze (λyv s8 ⟨y,H8,Ww,r8,e8,z8,m',hm,w8⟩=>?_) λ_ _ x=>x))
   have J8:Inv X' ([]++kc fp s6.heap) ym H8 s8:=Ww.kT J7.ok
   have za:=jZ (X:=X') _ s8 ym H8 (.ref s2.heap.objs.size) [y] (.ref s2.heap.objs.size) [yv] (λ_ H9=>H9=upd H8 s2.heap.objs.size (.lst (ys++[y]))) J8 rfl (.cons r8 .nil) ⟨_,ys,y,rfl,rfl,e8,z8,rfl⟩
   rw[hp1,hp2,yr,Fg]at za
   refine wpAny_bind (wpAny_mono za (λ_ s9 ⟨_,H9,J9,_,e9⟩=>?_) λ_ _ x=>x)
   subst e9
   refine wpAny_pure (wpAny_pure ⟨rfl,m',hm,i+1,ys++[y],_,?_,?_,?_,w8⟩)
   ·refine J9.Hw.weak ?_ ?_
    ·rw[S.len,J9.len]
     subst mJ
     rfl
    ·exact k7
   ·exact T.keep _ _ _ t6 λb hb o e=>(J9.pin (b,o) (List.mem_append_right _ (List.mem_append_right _ (iH hb e)))).1
   ·intro b hb
    obtain⟨o,e,d⟩:=T.obj _ _ t6 b hb
    exact(J9.pin (b,o) (List.mem_append_right _ (List.mem_append_right _ (iH hb e)))).2.1
 have l0:=loop _ I4 st3
 have l1:=codeAny_compStart_list l0 (T.self X.A 0 _ _ _ st3 l0)
 rw[Ds]at l1
 subst hR
 exact l1
theorem yQ{X:Cx}{E:XK}(F:Fm X)(LX:Lets X λ_=>E){i:Nat}{y:Str}{py spos:Pos}{elt tg iter:Expr}{scope:Scope}{pos:Pos}{wi:TI}{g:TG}{te:TE}{N:List Str}{lO:St->St}(hN:X.N.Nodup)(hi:X.N[i]? =some y)(hx:Loc X.env.scope y)
  (hc:X.calm=true) (hS:X.Ok->∃cl,cC X scope cl N lO) (hit:PI X tg iter wi)
  (hg:∀cl C s H ex pn E,PG (iK X scope cl C N s H ex pn E) tg g) (he:∀cl C s H ex pn xe,Lets (iK X scope cl C N s H ex pn xe) (λ_=>E)->PE (iK X scope cl C N s H ex pn xe) elt te)
  (hsw:swapsWith (.ListComp elt [⟨tg,iter,[],0⟩] scope pos) (some (.Name y py)) spos.line X.env=pure true:=by rfl)
  (hf:X.fn y=true\/X.env.scope.names.lookup y=some .local:=by first|exact .inl rfl|exact .inr rfl|assumption)
  (hs:∀x,foldedSetIterable iter X.env x=pure x:=by intro _;rfl):PS X (.Assign [.Name y py] (.ListComp elt [⟨tg,iter,[],0⟩] scope pos) spos) (Gp (yF wi g te lO) (Ck i)):=by
 intro pins s σ H D I h
 rw[exec_Assign_Name_used _ _ _ _ hsw]
 refine wpAny_bind (wpAny_standAt (wpAny_bind ?_))
 show wpAny _ X.A (do let _ ←comprehension (.ListComp elt [⟨tg,iter,[],0⟩] scope pos) scope X.env _ (newList []) false (eval iter X.env) (some (assign (.Name y py) X.env))) _ _ s
 refine wpAny_bind (wpAny_mono (A8 F LX (use:=some (assign (.Name y py) X.env)) (QQ:=λ_ s'=>SP X pins D .next s') hc hS hit hg he hs I h ?_) (λ_ s' hq=>wpAny_pure (wpAny_pure hq)) λ_ _ e=>e)
 intro l C mC H' s' I' fp hn q
 show wpAny _ X.A (assign (.Name y py) X.env (.ref l)) _ _ _
 refine wpAny_assign_Name (qB I' hN hi hx (v:=.ref l) rfl (λs2 I2 sb=>?_) hf)
 obtain⟨a,sb,ha⟩:=sb
 have nC:C≠a:=by
  obtain⟨_,f1,_,_,f4,_⟩:=fp
  rcases ha with z|z
  ·rw[z];exact f1
  ·exact λe=>f4 y a z e.symm
 refine⟨mC,hn.sameBut sb nC,λh' QC=>?_⟩
 refine⟨_,H',I2.moved (ch:=[C]) (t':=s2.toks) (λb o hb e=>(QC.2 b (by simpa using hb)).trans e) (λb hb=>?_),q⟩
 rw[List.mem_singleton.mp hb]
 exact fp
end L2
namespace L2
open PySem PySem.Spec PyProof.Rows
def notStar:Expr->Bool
 | .Starred .. =>false
 |_=>true
theorem CJ{e:Expr}{es:List Expr}{env:Env}(h:notStar e=true):starEach (e::es) env=(false,eval e env)::starEach es env:=by
 cases e<;>first|rfl|exact absurd h Bool.false_ne_true
theorem aH{X:Cx}{e:Expr}{es:List Expr}{te:TE}{t:TA}(ha:PE X e te)(hr:PA X es t)(h:notStar e=true:=by rfl):PA X (e::es) (Bq te t):=aa ha hr (CJ h)
theorem uJ{X:Cx}{K':PySem.W.Frag}(hK:X.K=K'):iV X (.type "tuple") (λxs H Q=>∃p ys,xs=[.ref p]/\((bX K' H p ys/\∀l,H l=none->Q (.ref l) (upd H l (.tup ys)))\/cL K' H p ys/\Q (.ref p) H)):=by subst hK;exact jC
end L2
namespace GP
open PySem L2 iX
structure Da(K:PySem.W.Frag)(mg:Str->Option Value)(x y:Str)(st:Stmt)(ps:List Str)(f:Addr)(fd:FuncData):Prop where
 fn:DT K y y st f fd
 b:Binds K fd ps []
 m:mg x=some (.ref f)
end GP
namespace L2
open PySem PySem.Spec PyProof.Rows
end L2
namespace GP
open PySem L2 iX
end GP
namespace GP
open PySem L2 iX
end GP
namespace GP
open PySem L2 iX
end GP
namespace GP
open PySem L2 iX
end GP
namespace GP
open PySem L2 iX
end GP
namespace GP
open PySem L2 iX
end GP
namespace GP
open PySem L2 iX
section
variable{K:PySem.W.Frag}{CP CB:Addr}{H H' DS:Hp}{t a x o:Addr}{k k2:Int}{sg:Str}{rows:List (List aS)}{fo fm:aS}{WJ rs WI:List Str}
end
end GP
namespace GP
open PySem L2 iX
end GP
namespace GP
open PySem L2 iX
theorem FH{c:Nat}:∀{a b r s:List Nat},c∉a->c∉b->a++c::r=b++c::s->a=b/\r=s
 |[],[],r,s,_,_,h=>⟨rfl,by injection h⟩
 |[],b::bs,r,s,_,hb,h=>by
  injection h with h1 h2
  exact absurd (h1▸List.mem_cons_self) hb
 |a::as,[],r,s,ha,_,h=>by
  injection h with h1 h2
  exact absurd (h1▸List.mem_cons_self) ha
 |a::as,b::bs,r,s,ha,hb,h=>by
  injection h with h1 h2
  obtain⟨e1,e2⟩:=FH (λz=>ha (List.mem_cons_of_mem _ z)) (λz=>hb (List.mem_cons_of_mem _ z)) h2
  exact⟨by rw[h1,e1],e2⟩
def rY(c:Nat):List (List Nat)->List Nat
 |[]=>[]
 |[a]=>a
 |a::b::r=>a++c::rY c (b::r)
theorem dZ(c:Nat):∀rs:List Str,(Str.join ⟨#[c]⟩ rs).cps.toList=rY c (rs.map λr=>r.cps.toList)
 |[]=>rfl
 |[a]=>rfl
 |a::b::r=>by
  show(a++(⟨#[c]⟩:Str)++Str.join ⟨#[c]⟩ (b::r)).cps.toList=a.cps.toList++c::rY c ((b::r).map λr=>r.cps.toList)
  rw[fD,fD,dZ c (b::r),List.append_assoc]
  rfl
theorem B0{c:Nat}:∀{p q:List (List Nat)},p≠[]->q≠[]->(∀a∈p,c∉a)->(∀a∈q,c∉a)->rY c p=rY c q->p=q
 |[],_,h,_,_,_,_=>absurd rfl h
 |_,[],_,h,_,_,_=>absurd rfl h
 |[a],[b],_,_,_,_,h=>by rw[show a=b from h]
 |[a],b::d::r,_,_,ha,_,h=>by
  have h':a=b++c::rY c (d::r):=h
  exact absurd (by rw[h'];simp) (ha a List.mem_cons_self)
 |a::d::r,[b],_,_,_,hb,h=>by
  have h':a++c::rY c (d::r)=b:=h
  exact absurd (by rw[←h'];simp) (hb b List.mem_cons_self)
 |a::d::r,b::e::s,_,_,ha,hb,h=>by
  obtain⟨e1,e2⟩:=FH (ha a List.mem_cons_self) (hb b List.mem_cons_self) (show a++c::rY c (d::r)=b++c::rY c (e::s) from h)
  rw[e1,B0 (by simp) (by simp) (λx hx=>ha x (List.mem_cons_of_mem _ hx)) (λx hx=>hb x (List.mem_cons_of_mem _ hx)) e2]
theorem yH(x:Str)(c:Nat):Txt.split x ⟨#[c]⟩≠[]:=by
 unfold Txt.split
 split
 ·simp
 ·split
  ·simp
  ·intro z
   have:=PyProof.Rows.len_partsBetween x (Builtin.Str.occurrences x ⟨#[c]⟩ 0 x.length (x.length+1)) (⟨#[c]⟩:Str).length
   rw[z]at this
   cases this
theorem jD{c:Nat}{rs:List Str}(hne:rs≠[])(hf:∀r∈rs,c∉r.cps.toList):Txt.split (Str.join ⟨#[c]⟩ rs) ⟨#[c]⟩=rs:=by
 have h:=StrLaws.join_split (Str.join ⟨#[c]⟩ rs) ⟨#[c]⟩
 have h2:rY c ((Txt.split (Str.join ⟨#[c]⟩ rs) ⟨#[c]⟩).map λr=>r.cps.toList)=rY c (rs.map λr=>r.cps.toList):=by
  rw[←dZ,←dZ,h]
 have h3:=B0 (c:=c) (by simpa using yH _ c) (by simpa using hne) (λa ha=>by
  obtain⟨r,hr,rfl⟩:=List.mem_map.mp ha
  exact StrLaws.split_free _ c r hr) (λa ha=>by
  obtain⟨r,hr,rfl⟩:=List.mem_map.mp ha
  exact hf r hr) h2
 have inj:∀{p q:List Str},(p.map λr=>r.cps.toList)=(q.map λr=>r.cps.toList)->p=q:=λ{p q} e=>by
  induction p generalizing q with
  |nil=>cases q with
   |nil=>rfl
   |cons b q=>cases e
  |cons a p ih=>cases q with
   |nil=>cases e
   |cons b q =>
    injection e with e1 e2
    rw[ih e2,wQ (Array.toList_inj.mp e1)]
 exact inj h3
end GP
namespace L2
open PySem PySem.Spec PyProof.Rows
theorem qz:∀{ys:List Str} {us:List Value},Vals (ys.map V.str) us->StrsAre us ys
 |[],_,.nil=>.nil
 |y::ys,_,.cons r rs=>by
  obtain⟨t,e⟩:=r
  rw[e]
  exact .cons y t (qz rs)
theorem vI:∀l:List (Str×Tok),Vals ((l.map (·.1)).map V.str) (strValues l)
 |[]=>.nil
 |(y,t)::l=>.cons ⟨t,rfl⟩ (vI l)
theorem iz{X:Cx}{K':PySem.W.Frag}(hK:X.K=K'):K9 X "str.join" (λx xs H Q=>∃(y:Str) (a:Addr) (ys:List Str),x= .str y/\xs=[.ref a]/\(bX K' H a (ys.map V.str)\/cL K' H a (ys.map V.str))/\y.length<=1/\(∀z∈ys,z.length<=2000)/\ys.length<=2000/\Q (.str (Str.join y ys)) H):=by
 subst hK
 intro pins s σ H x xs v us Q I rx rs h
 obtain⟨y,a,ys,rfl,rfl,hl,hy,hz,hn,q⟩:=h
 obtain⟨t,rfl⟩:=rx
 have hj:Txt.join y ys=Str.join y ys:=StrLaws.glued_eq_join y ys
 have hok:(ys.map (·.length)).sum+ys.length*y.length<=16777216:=by
  have h1:=StrLaws.sumLen_le ys hz
  have h2:ys.length*2000<=2000*2000:=Nat.mul_le_mul_right _ hn
  have h3:ys.length*y.length<=2000*1:=Nat.mul_le_mul hn hy
  omega
 cases rs with
 |cons r rr =>
  cases rr
  cases r
  rcases hl with hl|hl
  ·obtain⟨its,r1,t1,_⟩:=I.list hl
   exact TK.b9 (Nat.le_refl s.toks) (join_list (items:=its.toArray) t1.isList (qz r1) hok λt' k hk=>⟨.str (Str.join y ys),H,I.tok k hk,⟨t',by rw[hj]⟩,q⟩)
  ·obtain⟨its,r1,t1,_⟩:=I.tuple hl
   exact TK.b9 (Nat.le_refl s.toks) (join_tuple (items:=its.toArray) t1 (qz r1) hok λt' k hk=>⟨.str (Str.join y ys),H,I.tok k hk,⟨t',by rw[hj]⟩,q⟩)
theorem lE{X:Cx}:K9 X "str.split" (λx xs H Q=>∃(z:Str) (c:Nat),x= .str z/\xs=[.str ⟨#[c]⟩]/\z.length<=200000/\∀l,H l=none->Q (.ref l) (upd H l (.lst ((Txt.split z ⟨#[c]⟩).map V.str)))):=by
 intro pins s σ H x xs v us Q I rx rv h
 obtain⟨z,c,rfl,rfl,hz,q⟩:=h
 obtain⟨t,rfl⟩:=rx
 obtain⟨u,rfl,⟨t',rfl⟩⟩:=rv.one
 have Vr:z.length<=sizeLine:=Nat.le_trans hz (by decide)
 have hlen:(Builtin.Str.occurrences z ⟨#[c]⟩ 0 z.length (z.length+1)).length<=z.length+1:=StrLaws.occ_length_le _ _ _ _ _
 have VE:=len_partsBetween z (Builtin.Str.occurrences z ⟨#[c]⟩ 0 z.length (z.length+1)) (⟨#[c]⟩:Str).length
 have hn:(Builtin.Str.partsBetween z (Builtin.Str.occurrences z ⟨#[c]⟩ 0 z.length (z.length+1)) (⟨#[c]⟩:Str).length).length<=sizeLine:=by
  rw[VE]
  exact Nat.le_trans (show _<=200002 by omega) (by decide)
 have one:Txt.split z ⟨#[c]⟩=[z]->EP X pins σ Q (.ref s.heap.objs.size) { s with heap:=s.heap.push { cls:=.type "list",data:=.seq ([.str z t]:List Value).toArray } }:=λe=>by
  have qq:=q s.heap.objs.size I.fresh
  rw[e]at qq
  exact⟨.ref _,_,I.E4 (t':=s.toks) (ys:=[V.str z]) (.cons ⟨t,rfl⟩ .nil) (by show 1<=sizeLine;decide),rfl,qq⟩
 cases h1:(decide (z.length<(⟨#[c]⟩:Str).length)||decide (Builtin.Str.strKind z<Builtin.Str.strKind ⟨#[c]⟩))with
 |true =>
  refine call_meets F.slot_str_split (typeIs_str _ _ _) F.entry_str_split (F.args_str_split_2 _ _) (meets_str_split_cannot_occur z ⟨#[c]⟩ t t' h1) ?_
  exact one (if_pos h1)
 |false =>
  cases hf:(Builtin.Str.occurrences z ⟨#[c]⟩ 0 z.length (z.length+1)).isEmpty with
  |true =>
   refine call_meets F.slot_str_split (typeIs_str _ _ _) F.entry_str_split (F.args_str_split_2 _ _) (meets_str_split_not_found z ⟨#[c]⟩ t t' h1 rfl hf) ?_
   exact one ((if_neg (by rw[h1];exact Bool.false_ne_true)).trans (if_pos hf))
  |false =>
   refine call_meets F.slot_str_split (typeIs_str _ _ _) F.entry_str_split (F.args_str_split_2 _ _) (meets_str_split_sep z ⟨#[c]⟩ t t' h1 rfl hf Vr hn) ?_
   have e:Txt.split z ⟨#[c]⟩=Builtin.Str.partsBetween z (Builtin.Str.occurrences z ⟨#[c]⟩ 0 z.length (z.length+1)) (⟨#[c]⟩:Str).length:=(if_neg (by rw[h1];exact Bool.false_ne_true)).trans (if_neg (by rw[hf];exact Bool.false_ne_true))
   have qq:=q s.heap.objs.size I.fresh
   rw[e]at qq
   generalize Builtin.Str.partsBetween z (Builtin.Str.occurrences z ⟨#[c]⟩ 0 z.length (z.length+1)) (⟨#[c]⟩:Str).length=ps at hn qq ⊢
   have hv:Vals (ps.map V.str) (strsFrom s.toks ps):=by
    have:=vI (numbered s.toks ps)
    rw[numbered_texts,←strsFrom_eq]at this
    exact this
   exact⟨.ref _,_,I.E4 (t':=s.toks+ps.length) hv (by rw[List.length_map];exact hn) (Nat.le_add_right _ _),rfl,qq⟩
end L2
namespace GP
open PySem L2 iX
end GP
namespace GP
open PySem L2 iX
def zK(i:Nat):List (Str×V):=aJ "line" (.int i) []
theorem Dw{i:Nat}:(zK i).lookup ("line" :Str)=some (.int i):=by
 unfold zK
 rw[ao,if_pos rfl]
def lu(C:Addr):Sp:=λvs H Q _=>∃(e:Addr) (i:Nat),vs=[.ref e,.int i]/\H e=some (newX e C none)/\i<=100000 ∧
 ∀dx H',(∀b u,H b=some u->b≠e->H' b=some u)->H dx=none->H' e=some (newX e C (some dx))->H' dx=some (vB dx (zK i))->Q .gx H'
abbrev jn(rs:List Str):Str:=Str.join ⟨#[10]⟩ rs
theorem sP(c:Nat):∀p:List (List Nat),(rY c p).length<=(p.map List.length).sum+p.length
 |[]=>Nat.zero_le _
 |[a]=>by show a.length<=_;simp
 |a::b::r=>by
  have ih:=sP c (b::r)
  show(a++c::rY c (b::r)).length<=_
  rw[List.length_append,List.length_cons,List.map_cons,List.sum_cons,List.length_cons]
  omega
theorem wN(B:Nat):∀l:List Nat,(∀x∈l,x<=B)->l.sum<=l.length*B
 |[],_=>Nat.zero_le _
 |a::l,h=>by
  have ih:=wN B l λx hx=>h x (List.mem_cons_of_mem _ hx)
  have ha:=h a List.mem_cons_self
  rw[List.sum_cons,List.length_cons,Nat.succ_mul]
  omega
end GP
namespace GP
open PySem L2 iX
end GP
namespace GP
open PySem L2 iX
def FU(v u:V):Prop:=(∃s,v= .str s/\u= .str s)\/∃n,v= .int n/\u= .int n
def mK(K:PySem.W.Frag)(H:Hp):Nat->V->V->Prop
 | 0,v,u=>FU v u
 |d+1,v,u=>FU v u\/∃p q xs ys,v= .ref p/\u= .ref q/\cL K H p xs/\cL K H q ys/\xs.length=ys.length/\xs.length<=100/\∀(i:Nat) x y,xs[i]? =some x->ys[i]? =some y->mK K H d x y
theorem mK.same{K:PySem.W.Frag}{H H':Hp}(e:ai H H'):∀{d:Nat} {v u:V},mK K H d v u->mK K H' d v u
 | 0,_,_,h=>h
 |d+1,_,_,h=>h.imp id λ⟨p,q,xs,ys,h1,h2,h3,h4,h5,h6,h7⟩=>⟨p,q,xs,ys,h1,h2,ai.tup e h3,ai.tup e h4,h5,h6,λi x y hx hy=>mK.same e (h7 i x y hx hy)⟩
theorem mK.flat{K:PySem.W.Frag}{H:Hp}{d:Nat}{v u:V}(h:FU v u):mK K H d v u:=by
 cases d with
 |zero=>exact h
 |succ d=>exact .inl h
theorem mK.two{K:PySem.W.Frag}{H:Hp}{p q:Addr}{x y x' y':V}{d:Nat}(hp:cL K H p [x,y])(hq:cL K H q [x',y'])(h1:mK K H d x x')(h2:mK K H d y y'):mK K H (d+1) (.ref p) (.ref q):=by
 refine .inr ⟨p,q,_,_,rfl,rfl,hp,hq,rfl,by show 2<=100;decide,λi a b ha hb=>?_⟩
 match i,ha,hb with
 | 0,ha,hb=>cases ha;cases hb;exact h1
 | 1,ha,hb=>cases ha;cases hb;exact h2
def pP(K:PySem.W.Frag)(d:Nat):Sp:=λvs H Q _=>∃v u:V,vs=[v,u]/\mK K H d v u/\∀H',ai H H'->Q (.bl true) H'
end GP
namespace GP
open PySem L2 iX
end GP
namespace GP
open PySem L2 iX
section
variable{rs:List Str}{n w k:Nat}{o:Str}
end
end GP
namespace L2
open PySem PySem.Spec PyProof.Rows
end L2
namespace GP
open PySem L2 iX
end GP
namespace L2
end L2
namespace GP
open PySem L2 iX
abbrev vJ(C:Addr):Sp:=lu C
end GP
namespace L2
open PySem PySem.Spec PyProof.Rows
theorem C5{X:Cx}:K9 X "str.startswith" (λx xs H Q=>∃z y:Str,x= .str z/\xs=[.str y]/\Q (.bl (Txt.startswith z y)) H):=by
 intro pins s σ H x xs v us Q I rx rv h
 obtain⟨z,y,rfl,rfl,q⟩:=h
 obtain⟨t,rfl⟩:=rx
 obtain⟨u,rfl,⟨t',rfl⟩⟩:=rv.one
 exact SC.startswith ⟨.bl _,H,I,rfl,q⟩
theorem wo{X:Cx}:iV X (.type "int") (λxs H Q=>∃(x:Str) (n:Int),xs=[.str x]/\PySem.intText? x=some n/\x.length<=640/\Q (.int n) H):=by
 intro pins s σ H xs us Q I r h
 obtain⟨x,n,rfl,hn,hl,q⟩:=h
 obtain⟨u,rfl,t,rfl⟩:=vals1 r
 exact PySem.W.KIN.call_text hn hl ⟨.int n,H,I.tok _,⟨_,rfl⟩,q⟩
theorem CY{X:Cx}(hu:X.A.units+1<cLine):mL X (compareOp .In) (λx y H Q=>∃(p:Addr) (os:List V),x= .gx/\y= .ref p/\bX X.K H p os/\(∀z∈os,z= .gx\/∃q ys,z= .ref q/\cL X.K H q ys)/\Q (.bl (os.any λz=>decide (z= .gx))) H):=by
 intro pins s σ H x y v u Q I rx ry h
 obtain⟨p,os,rfl,rfl,hq,ho,q⟩:=h
 cases rx
 cases ry
 obtain⟨its,r,pl,hz⟩:=I.list hq
 have key:∀{xs:List V} {us:List Value},Vals xs us->(∀z∈xs,z= .gx\/∃q ys,z= .ref q/\cL X.K H q ys)->(∀w∈us,SeqAt.EqAt X.A.in1 s w .none (w== .none))/\us.any (λw=>w== .none)=xs.any λz=>decide (z= .gx):=by
  intro xs us r
  induction r with
  |nil=>exact λ_=>⟨(λw hw=>nomatch hw),rfl⟩
  |cons r1 rs ih =>
   intro hz
   obtain⟨i1,i2⟩:=ih λz hz'=>hz z (List.mem_cons_of_mem _ hz')
   rcases hz _ List.mem_cons_self with e|⟨q,ys,e,ht⟩
   ·subst e
    cases r1
    refine⟨λw hw=>?_,?_⟩
    ·rcases List.mem_cons.mp hw with rfl|hw
     ·exact FD (y:=.gx) (x:=.gx) rfl rfl rfl rfl
     ·exact i1 w hw
    ·rw[List.any_cons,List.any_cons,i2];rfl
   ·subst e
    cases r1
    obtain⟨its',r',U9,_⟩:=I.tuple ht
    refine⟨λw hw=>?_,?_⟩
    ·rcases List.mem_cons.mp hw with rfl|hw
     ·exact SeqAt.EqAt.tuple_none U9 hu
     ·exact i1 w hw
    ·rw[List.any_cons,List.any_cons,i2];rfl
 obtain⟨k1,k2⟩:=key r ho
 refine SeqAt.in_listAt (λw=>w== .none) pl.isList (λw hw=>k1 w (by simpa using hw)) ⟨.bl _,H,I,rfl,?_⟩
 rw[show its.toArray.any (λw=>w== .none)=its.any (λw=>w== .none) by simp,k2]
 exact q
end L2
namespace GP
open PySem L2 iX PySem.NumText
def sI(n:Int):Str:=Str.ofString (toString n)
def sW(f:aS):Str:=((if(aZ f).1<0 then(⟨#[45]⟩:Str)else⟨#[]⟩)++sI ((aZ f).1.natAbs:Int))++(if(aZ f).2>1 then(⟨#[47]⟩:Str)++sI (aZ f).2 else⟨#[]⟩)
def Ky(c:Nat):Bool:=decide (48<=c)&&decide (c<=57)
theorem M0(c:Nat):decide (c∈(Str.ofString "0123456789").cps.toList)=Ky c:=by
 unfold Ky
 rw[Bool.eq_iff_iff,Bool.and_eq_true,decide_eq_true_eq,decide_eq_true_eq,decide_eq_true_eq]
 show c∈[48,49,50,51,52,53,54,55,56,57]↔_
 simp only[List.mem_cons,List.not_mem_nil,or_false]
 omega
def jh(x:Str):Bool:=decide (1<=x.cps.size)&&decide (x.cps.size<=60)&&x.cps.toList.all Ky
def valN(x:Str):Int:=(digitsVal x.cps.toList:Nat)
def hdS(b:Bool)(ps:List Str):Str:=if b then Txt.slice (ps.headD ⟨#[]⟩) (some 1) none else ps.headD ⟨#[]⟩
def Ad(qs:List Str):Int:=if qs.length=2 then valN (qs.getD 1 ⟨#[]⟩)else 1
def A5(b:Bool)(qs:List Str):aS:=(if b=true then -valN (qs.headD ⟨#[]⟩)else valN (qs.headD ⟨#[]⟩),Ad qs)
def F0(x:Str)(b:Bool)(qs:List Str):Option aS :=
 if(decide (qs.length>2)|| !qs.all jh)=true then none else if Ad qs<1 then none else if sW (A5 b qs)=x then some (A5 b qs)else none
def oJ(x:Str):Option aS:=F0 x (Txt.startswith x ⟨#[45]⟩) (hdS (Txt.startswith x ⟨#[45]⟩) (Txt.split x ⟨#[47]⟩)::(Txt.split x ⟨#[47]⟩).tail)
theorem Ey{x:Str}{b:Bool}{qs:List Str}(h:qs.length>2):F0 x b qs=none:=if_pos (by rw[decide_eq_true h];rfl)
theorem Gx{x:Str}{b:Bool}{qs:List Str}(h:qs.all jh=false):F0 x b qs=none:=if_pos (by rw[h];simp)
theorem Gw{x:Str}{b:Bool}{qs:List Str}(h:Ad qs<1):F0 x b qs=none:=by
 unfold F0
 by_cases c:(decide (qs.length>2)|| !qs.all jh)=true
 ·rw[if_pos c]
 ·rw[if_neg c,if_pos h]
theorem Jy{x:Str}{b:Bool}{qs:List Str}(h:¬sW (A5 b qs)=x):F0 x b qs=none:=by
 unfold F0
 by_cases c:(decide (qs.length>2)|| !qs.all jh)=true
 ·rw[if_pos c]
 ·rw[if_neg c]
  by_cases d:Ad qs<1
  ·rw[if_pos d]
  ·rw[if_neg d,if_neg h]
theorem tM{x:Str}{b:Bool}{qs:List Str}(h1:¬qs.length>2)(h2:qs.all jh=true)(h3:¬Ad qs<1)(h4:sW (A5 b qs)=x):F0 x b qs=some (A5 b qs):=by
 unfold F0
 rw[if_neg (by rw[decide_eq_false h1,h2];decide),if_neg h3,if_pos h4]
structure zW(f:aS):Prop where
 low:aZ f=f
 pos:1<=f.2
 El:f.1.natAbs<10 ^ 60
 BE:f.2<10 ^ 60
theorem pV(m:Nat):(sI (m:Int)).cps.toList=(Nat.toDigits 10 m).map Char.toNat:=PySem.W.KIN.signs_num m
theorem As(m:Nat):AllDigits (sI (m:Int)).cps.toList:=by
 intro c hc
 rw[pV]at hc
 obtain⟨ch,hch,e⟩:=List.mem_map.mp hc
 have r:=PyProof.Rows.digit_range (Nat.isDigit_of_mem_toDigits (by decide) (by decide) hch)
 rw[←e]
 exact r
theorem Es(m:Nat):valN (sI (m:Int))=m:=by
 unfold valN
 rw[pV,PySem.W.KIN.val_back]
theorem o6(m:Nat)(h:m<10 ^ 60):1<=(sI (m:Int)).cps.size/\(sI (m:Int)).cps.size<=60:=by
 rw[←Array.length_toList,pV,List.length_map]
 exact⟨PyProof.Rows.tDigits_len_ge 10 m,PyProof.Rows.digits10_le (by decide) h⟩
theorem Et(m:Nat)(h:m<10 ^ 60):jh (sI (m:Int))=true:=by
 obtain⟨h1,h2⟩:=o6 m h
 unfold jh
 rw[decide_eq_true h1,decide_eq_true h2,Bool.true_and,Bool.true_and,List.all_eq_true]
 intro c hc
 obtain⟨a,b⟩:=As m c hc
 unfold Ky
 rw[decide_eq_true a,decide_eq_true b]
 rfl
theorem zM{x:Str}(h:jh x=true):AllDigits x.cps.toList/\1<=x.cps.size/\x.cps.size<=60:=by
 unfold jh at h
 rw[Bool.and_eq_true,Bool.and_eq_true,decide_eq_true_eq,decide_eq_true_eq,List.all_eq_true]at h
 refine⟨λc hc=>?_,h.1.1,h.1.2⟩
 have z:=h.2 c hc
 unfold Ky at z
 rw[Bool.and_eq_true,decide_eq_true_eq,decide_eq_true_eq]at z
 exact z
theorem zL{x:Str}(h:jh x=true):PySem.intText? x=some (valN x)/\x.length<=640:=by
 obtain⟨h1,h2,h3⟩:=zM h
 have h4:x.length<=60:=h3
 refine⟨intText_digits h1 (λz=>?_) (by omega),by omega⟩
 have e:x.cps.toList.length=0:=by rw[z];rfl
 rw[Array.length_toList]at e
 omega
theorem fold_lt:∀(l:List Nat),(∀c∈l,48<=c/\c<=57)->∀a:Nat,l.foldl (λacc c=>acc*10+(c-48)) a<(a+1)*10 ^ l.length
 |[],_,a=>by simp
 |c::l,h,a=>by
  have h1:=h c List.mem_cons_self
  have h2:=fold_lt l (λd hd=>h d (List.mem_cons_of_mem _ hd)) (a*10+(c-48))
  show l.foldl _ (a*10+(c-48))<_
  refine Nat.lt_of_lt_of_le h2 ?_
  rw[List.length_cons,Nat.pow_succ,Nat.mul_comm (10 ^ l.length) 10,←Nat.mul_assoc]
  exact Nat.mul_le_mul_right _ (by omega)
theorem Bo{x:Str}(h:jh x=true):0<=valN x/\valN x<10 ^ 60:=by
 obtain⟨h1,_,h3⟩:=zM h
 refine⟨Int.natCast_nonneg _,?_⟩
 have h4:=fold_lt _ h1 0
 have h5:digitsVal x.cps.toList<10 ^ 60:=by
  refine Nat.lt_of_lt_of_le h4 ?_
  rw[Nat.zero_add,Nat.one_mul,Array.length_toList]
  exact Nat.pow_le_pow_right (by decide) h3
 unfold valN
 exact_mod_cast h5
end GP
namespace GP
open PySem L2 iX PySem.NumText
def yt(f:aS):Str:=(if f.1<0 then(⟨#[45]⟩:Str)else⟨#[]⟩)++sI (f.1.natAbs:Int)
def Qi(f:aS):Str:=if f.2>1 then(⟨#[47]⟩:Str)++sI f.2 else⟨#[]⟩
theorem Ar{f:aS}(h:zW f):sW f=yt f++Qi f:=by
 unfold sW
 rw[h.low]
 rfl
theorem qH{n:Int}(h:0<=n):∃m:Nat,n=m/\sI n=sI (m:Int):=⟨n.toNat,by omega,by rw[Int.toNat_of_nonneg h]⟩
theorem w5{n:Int}(h:0<=n){c:Nat}(hc:c<48\/57<c):c∉(sI n).cps.toList:=λz=>by
 obtain⟨m,rfl,_⟩:=qH h
 have:=As m c z
 omega
theorem qi(f:aS):(yt f).cps.toList=(if f.1<0 then [45]else [])++(sI (f.1.natAbs:Int)).cps.toList:=by
 unfold yt
 rw[fD]
 split<;>rfl
theorem uu{f:aS}{c:Nat}(hc:c<45\/c=46\/c=47\/57<c):c∉(yt f).cps.toList:=by
 rw[qi,List.mem_append]
 rintro(z|z)
 ·split at z
  ·rw[List.mem_singleton]at z;omega
  ·cases z
 ·exact w5 (Int.natCast_nonneg _) (by omega) z
theorem Eo{f:aS}(h:zW f):Txt.split (sW f) ⟨#[47]⟩=if f.2>1 then [yt f,sI f.2]else [yt f]:=by
 rw[Ar h]
 unfold Qi
 split
 ·have e:yt f++((⟨#[47]⟩:Str)++sI f.2)=Str.join ⟨#[47]⟩ [yt f,sI f.2]:=tw (by
   rw[dZ,fD,fD];rfl)
  rw[e]
  refine jD (by simp) λr hr=>?_
  rcases List.mem_cons.mp hr with rfl|hr
  ·exact uu (by omega)
  ·rw[List.mem_singleton.mp hr]
   exact w5 (by have:=h.pos;omega) (by omega)
 ·have e:yt f++(⟨#[]⟩:Str)=Str.join ⟨#[47]⟩ [yt f]:=tw (by rw[dZ,fD];simp[rY])
  rw[e]
  refine jD (by simp) λr hr=>?_
  rw[List.mem_singleton.mp hr]
  exact uu (by omega)
theorem Ai(x:Str)(c:Nat):Txt.startswith x ⟨#[c]⟩=decide (x.cps.toList[0]? =some c):=by
 unfold Txt.startswith
 have z:=StrLaws.subAt_one x c 0
 rw[Bool.eq_iff_iff,Bool.and_eq_true,decide_eq_true_eq,decide_eq_true_eq]
 exact z
theorem Gs{n:Int}(h:0<=n):∃c r,(sI n).cps.toList=c::r/\48<=c/\c<=57:=by
 obtain⟨m,rfl,_⟩:=qH h
 have hd:=As m
 have hl:1<=(sI (m:Int)).cps.toList.length:=by
  rw[pV,List.length_map]
  exact PyProof.Rows.tDigits_len_ge 10 m
 cases e:(sI (m:Int)).cps.toList with
 |nil=>rw[e]at hl;exact absurd hl (by decide)
 |cons c r=>exact⟨c,r,rfl,hd c (by rw[e];exact List.mem_cons_self)⟩
theorem CO{f:aS}(h:zW f):Txt.startswith (sW f) ⟨#[45]⟩=decide (f.1<0):=by
 rw[Ai,Ar h,fD,qi]
 by_cases hn:f.1<0
 ·rw[if_pos hn,decide_eq_true hn]
  rfl
 ·rw[if_neg hn,decide_eq_false hn]
  obtain⟨c,r,e,h1,h2⟩:=Gs (n:=(f.1.natAbs:Int)) (Int.natCast_nonneg _)
  rw[e]
  refine decide_eq_false λz=>?_
  have z':some c=some 45:=z
  injection z' with z'
  omega
theorem Cf{f:aS}(h:zW f){ps:List Str}:hdS (decide (f.1<0)) (yt f::ps)=sI (f.1.natAbs:Int):=by
 unfold hdS
 by_cases hn:f.1<0
 ·rw[decide_eq_true hn,if_pos rfl]
  refine tw ?_
  show(Txt.slice (yt f) (some 1) none).cps.toList=_
  have hl:(yt f).cps.toList=45::(sI (f.1.natAbs:Int)).cps.toList:=by rw[qi,if_pos hn];rfl
  have hz:(1:Int)<=((yt f).cps.size:Int):=by
   have:(yt f).cps.toList.length=(sI (f.1.natAbs:Int)).cps.toList.length+1:=by rw[hl];rfl
   rw[Array.length_toList]at this
   omega
  rw[yL (by decide) hz,hl]
  rfl
 ·rw[decide_eq_false hn,if_neg Bool.false_ne_true]
  refine tw ?_
  show(yt f).cps.toList=_
  rw[qi,if_neg hn]
  rfl
theorem Jw{f:aS}(h:zW f):oJ (sW f)=some f:=by
 have e1:=Eo h
 have e2:=CO h
 have f1:jh (sI (f.1.natAbs:Int))=true:=Et _ h.El
 obtain⟨u,hu,eu⟩:=qH (n:=f.2) (by have:=h.pos;omega)
 have Rl:u<10 ^ 60:=by have:=h.BE;rw[hu]at this;exact_mod_cast this
 have f2:jh (sI f.2)=true:=by rw[eu];exact Et u Rl
 have v1:=Es f.1.natAbs
 have v2:valN (sI f.2)=f.2:=by rw[eu,Es,←hu]
 have p1:¬f.2<1:=by have:=h.pos;omega
 have key:∀qs:List Str,qs.headD ⟨#[]⟩=sI (f.1.natAbs:Int)->Ad qs=f.2->A5 (decide (f.1<0)) qs=f:=λqs q1 q2=>by
  unfold A5
  rw[q1,q2,v1]
  refine Prod.ext ?_ rfl
  show(if decide (f.1<0)=true then _ else _)=f.1
  by_cases z:f.1<0
  ·rw[decide_eq_true z,if_pos rfl];omega
  ·rw[decide_eq_false z,if_neg Bool.false_ne_true];omega
 unfold oJ
 rw[e1,e2]
 by_cases hb:f.2>1
 ·rw[if_pos hb,Cf h]
  have k:=key [sI (f.1.natAbs:Int),sI f.2] rfl v2
  rw[show [yt f,sI f.2].tail=[sI f.2] from rfl,tM (by show ¬ 2>2;decide) (by simp[f1,f2]) (by show ¬valN (sI f.2)<1;rw[v2];exact p1) (by rw[k]),k]
 ·rw[if_neg hb,Cf h]
  have h1:f.2=1:=by have:=h.pos;omega
  have k:=key [sI (f.1.natAbs:Int)] rfl h1.symm
  rw[show [yt f].tail=[] from rfl,tM (by show ¬ 1>2;decide) (by simp[f1]) (by show ¬(1:Int)<1;decide) (by rw[k]),k]
theorem tO{α β:Type}(g:α->β)(d:α)(l:List α):(List.range l.length).map (λi=>g (l.getD i d))=l.map g:=by
 apply List.ext_getElem
 ·simp
 ·intro i h1 h2
  have h3:i<l.length:=by simpa using h2
  simp[h3]
theorem BZ{c:Nat}:∀{p:List (List Nat)} {a:List Nat},a∈p->a.length<=(rY c p).length
 |[b],a,h=>by rw[List.mem_singleton.mp h];exact Nat.le_refl _
 |b::d::r,a,h=>by
  show _<=(b++c::rY c (d::r)).length
  rw[List.length_append,List.length_cons]
  rcases List.mem_cons.mp h with rfl|h
  ·omega
  ·have:=BZ (c:=c) h
   omega
theorem B3{c:Nat}:∀p:List (List Nat),p.length<=(rY c p).length+1
 |[]=>Nat.zero_le _
 |[b]=>Nat.succ_le_succ (Nat.zero_le _)
 |b::d::r=>by
  have:=B3 (c:=c) (d::r)
  show _<=(b++c::rY c (d::r)).length+1
  simp only[List.length_append,List.length_cons]at this ⊢
  omega
theorem rF(x:Str)(c:Nat):(∀r∈Txt.split x ⟨#[c]⟩,r.cps.size<=x.cps.size)/\(Txt.split x ⟨#[c]⟩).length<=x.cps.size+1:=by
 have h:=StrLaws.join_split x ⟨#[c]⟩
 have e:rY c ((Txt.split x ⟨#[c]⟩).map λr=>r.cps.toList)=x.cps.toList:=by rw[←dZ,h]
 have hz:x.cps.toList.length=x.cps.size:=Array.length_toList
 refine⟨λr hr=>?_,?_⟩
 ·have:=BZ (c:=c) (List.mem_map_of_mem (f:=λr:Str=>r.cps.toList) hr)
  rw[e,hz,Array.length_toList]at this
  exact this
 ·have:=B3 (c:=c) ((Txt.split x ⟨#[c]⟩).map λr=>r.cps.toList)
  rw[e,hz,List.length_map]at this
  exact this
abbrev jb(rs:List Str):Str:=Str.join ⟨#[32]⟩ rs
def uX(x:Str)(n:Nat):Option (List aS) :=
 let ps:=(Txt.split x ⟨#[32]⟩).map oJ
 if ps.length=n/\ps.all Option.isSome=true then some (ps.filterMap id)else none
theorem BH{f:aS}(h:zW f){c:Nat}(hc:c<45\/c=46\/57<c):c∉(sW f).cps.toList:=by
 rw[Ar h,fD,List.mem_append]
 rintro(z|z)
 ·exact uu (by omega) z
 ·unfold Qi at z
  split at z
  ·rw[fD,List.mem_append]at z
   rcases z with z|z
   ·have:c=47:=by simpa using z
    omega
   ·exact w5 (by have:=h.pos;omega) (by omega) z
  ·cases z
theorem Jz{fs:List aS}(hne:fs≠[])(h:∀f∈fs,zW f):uX (jb (fs.map sW)) fs.length=some fs:=by
 have e:Txt.split (jb (fs.map sW)) ⟨#[32]⟩=fs.map sW:=jD (by simpa using hne) λr hr=>by
  obtain⟨f,hf,rfl⟩:=List.mem_map.mp hr
  exact BH (h f hf) (by omega)
 have e2:(fs.map sW).map oJ=fs.map some:=by
  rw[List.map_map]
  exact List.map_congr_left λf hf=>Jw (h f hf)
 unfold uX
 simp only
 rw[e,e2,if_pos ⟨by rw[List.length_map],by simp⟩]
 congr 1
 rw[List.filterMap_map]
 exact List.filterMap_some
end GP
namespace GP
open PySem L2 iX PySem.NumText
theorem Vn{c:Bool}{a b:V}{σ:L2.St}{H:Hp}{Q:VK}(h:Q (if c=true then a else b) H):if c=true then tC a σ H Q else tC b σ H Q:=by cases c<;>exact h
theorem uh{n:Int}(h:n.natAbs<10 ^ 60):Sm n:=Nat.lt_of_lt_of_le h (by decide +kernel)
theorem lY{n:Int}(h:n.natAbs<10 ^ 60):n.natAbs.log2<1920:=by
 rcases Nat.eq_zero_or_pos n.natAbs with h0|hp
 ·rw[h0];decide
 ·exact Nat.lt_trans ((Nat.log2_lt (by omega)).mpr (Nat.lt_of_lt_of_le h (show 10 ^ 60<=2 ^ 200 by decide +kernel))) (by decide)
structure cY(f:aS):Prop where
 pos:1<=f.2
 El:f.1.natAbs<10 ^ 60
 BE:f.2.natAbs<10 ^ 60
def HF:Sp:=λvs H Q _=>∃n:Int,vs=[.int n]/\0<=n/\n<10 ^ 60/\∀H',ai H H'->Q (.str (sI n)) H'
def Bs(K:PySem.W.Frag):Sp:=λvs H Q _=>∃(p:Addr) (f:aS),vs=[.ref p]/\eB K H p f/\cY f/\∀H',ai H H'->Q (.str (sW f)) H'
def Ef(K:PySem.W.Frag):Sp:=λvs H Q _=>∃(c:Cp) (fs:List aS),vs=[c.val]/\gH K H c fs/\(∀f∈fs,cY f)/\fs.length<=12/\∀H',ai H H'->Q (.str (jb (fs.map sW))) H'
def gy(sg:Str)(rows:List (List aS))(fo fm:aS):List Str:=sg::(rows.map (λr=>jb (r.map sW))++[jb [sW fo,sW fm]])
def Hz(K:PySem.W.Frag)(C:Addr):Sp:=λvs H Q _=>∃(x:Addr) (sg:Str) (rows:List (List aS)) (fo fm:aS),vs=[.ref x]/\zV K C H x sg rows fo fm/\sg.cps.size<=12/\(∀r∈rows,∀f∈r,cY f)/\cY fo/\cY fm ∧
 ∀H',ai H H'->Q (.str (jn (gy sg rows fo fm))) H'
theorem k6{f:aS}(h:cY f):cY (aZ f):=by
 have h0:0<f.2:=by have:=h.pos;omega
 have p:=uf f.1 h0
 have l:=lo_le f.1 h0
 have l2:(aZ f).2<=f.2:=l
 have p2:0<(aZ f).2:=p
 exact⟨by omega,Nat.lt_of_le_of_lt (mj _ _) h.El,Nat.lt_of_le_of_lt (by omega) h.BE⟩
theorem mY{f:aS}(h:cY f):(sW f).cps.size<=122:=by
 have g:=k6 h
 have l1:=(o6 (aZ f).1.natAbs g.El).2
 unfold sW
 rw[dX,dX]
 have a:(if(aZ f).1<0 then(⟨#[45]⟩:Str)else⟨#[]⟩).cps.size<=1:=by split<;>decide
 have b:(if(aZ f).2>1 then(⟨#[47]⟩:Str)++sI (aZ f).2 else⟨#[]⟩).cps.size<=61:=by
  split
  ·rw[dX]
   obtain⟨m,e,es⟩:=qH (n:=(aZ f).2) (by have:=g.pos;omega)
   have hm:m<10 ^ 60:=by have:=g.BE;rw[e]at this;simpa using this
   have:=(o6 m hm).2
   rw[es]
   show 1+_<=61
   omega
  ·decide
 omega
theorem Ep{f:aS}(h:cY f):(if(aZ f).1<0 then(⟨#[45]⟩:Str)else⟨#[]⟩).length<=1/\(sI ((aZ f).1.natAbs:Int)).length<=60/\(sI (aZ f).2).length<=60:=by
 have g:=k6 h
 refine⟨by split<;>decide,(o6 (aZ f).1.natAbs g.El).2,?_⟩
 obtain⟨m,e,es⟩:=qH (n:=(aZ f).2) (by have:=g.pos;omega)
 have hm:m<10 ^ 60:=by have:=g.BE;rw[e]at this;simpa using this
 rw[es]
 exact(o6 m hm).2
theorem xB{fs:List aS}(h:∀f∈fs,cY f)(hl:fs.length<=12):(jb (fs.map sW)).cps.size<=2000:=by
 rw[←Array.length_toList,dZ]
 have h1:=sP 32 ((fs.map sW).map λr=>r.cps.toList)
 have h2:=wN 122 (((fs.map sW).map λr=>r.cps.toList).map List.length) λx hx=>by
  rw[List.map_map,List.map_map]at hx
  obtain⟨f,hf,rfl⟩:=List.mem_map.mp hx
  show(sW f).cps.toList.length<=122
  rw[Array.length_toList]
  exact mY (h f hf)
 rw[List.length_map,List.length_map,List.length_map]at h2
 rw[List.length_map,List.length_map]at h1
 have h3:fs.length*122<=12*122:=Nat.mul_le_mul_right _ hl
 omega
theorem sL{sg:Str}{rows:List (List aS)}{fo fm:aS}(hs:Bc sg.cps.size rows)(h12:sg.cps.size<=12)(ho:∀r∈rows,∀f∈r,cY f)(hfo:cY fo)(hfm:cY fm):∀z∈gy sg rows fo fm,z.cps.size<=2000:=by
 intro z hz
 unfold gy at hz
 rcases List.mem_cons.mp hz with rfl|hz
 ·omega
 rcases List.mem_append.mp hz with hz|hz
 ·obtain⟨r,hr,rfl⟩:=List.mem_map.mp hz
  exact xB (ho r hr) (by rw[hs.2 r hr];exact h12)
 ·rw[List.mem_singleton.mp hz]
  refine xB (fs:=[fo,fm]) (λf hf=>?_) (by show 2<=12;decide)
  rcases List.mem_cons.mp hf with rfl|hf
  ·exact hfo
  ·rw[List.mem_singleton.mp hf];exact hfm
theorem Fq{b:Bool}{qs:List Str}(hne:qs.length≠0)(h2:qs.all jh=true)(h3:¬Ad qs<1):cY (A5 b qs):=by
 rw[List.all_eq_true]at h2
 have h0:qs.headD ⟨#[]⟩∈qs:=by
  cases qs with
  |nil=>exact absurd rfl hne
  |cons a l=>exact List.mem_cons_self
 obtain⟨a1,a2⟩:=Bo (h2 _ h0)
 refine⟨(show 1<=Ad qs by omega),?_,?_⟩
 ·show(if b=true then -valN (qs.headD ⟨#[]⟩)else valN (qs.headD ⟨#[]⟩)).natAbs<10 ^ 60
  cases b with
  |true=>rw[if_pos rfl];omega
  |false=>rw[if_neg Bool.false_ne_true];omega
 ·show(Ad qs).natAbs<10 ^ 60
  unfold Ad
  split
  ·rename_i e
   have h1:qs.getD 1 ⟨#[]⟩∈qs:=by
    rw[List.getD_eq_getElem?_getD,List.getElem?_eq_getElem (show 1<qs.length by omega)]
    exact List.getElem_mem _
   obtain⟨b1,b2⟩:=Bo (h2 _ h1)
   omega
  ·exact Nat.one_lt_pow (by decide) (by decide)
theorem Gf{qs:List Str}(h:qs.length=2):Ad qs=valN (qs.getD 1 ⟨#[]⟩):=if_pos h
theorem Gg{qs:List Str}(h:¬qs.length=2):Ad qs=1:=if_neg h
def Ek:Sp:=λvs H Q _=>∃x:Str,vs=[.str x]/\x.cps.size<=2000/\∀H',ai H H'->Q (.bl (jh x)) H'
def By(K:PySem.W.Frag):Sp:=λvs H Q _=>∃x:Str,vs=[.str x]/\x.cps.size<=2000 ∧
 (∀f,oJ x=some f->∀q H',ai H H'->H q=none->H' q=some (.tup [.int f.1,.int f.2])->Q (.ref q) H')/\(oJ x=none->∀H',ai H H'->Q .gx H')
def Bw(C:Addr):Sp:=λvs H Q E=>∃x:Str,vs=[.str x]/\Lb x/\(ig x->∀H',ai H H'->Q (.str x) H') ∧
 (¬ig x->∀dx H',ai H H'->H' dx=some (vB dx (zK 0))->E (.ref C) (some dx) H')
def yJ(K:PySem.W.Frag)(C:Addr):Sp:=λvs H Q E=>∃(l:Addr) (rs:List Str) (i n:Nat),vs=[.ref l,.int i,.int n]/\bX K H l (rs.map V.str)/\(∀r∈rs,r.cps.size<=2000)/\rs.length<=1000/\i<=1000 ∧
 (∀x fs,rs[i]? =some x->uX x n=some fs->∀q ps H',ai H H'->H q=none->H' q=some (.lst (ps.map V.ref))->Paired (λp f=>H' p=some (.tup [.int f.1,.int f.2])) ps fs->Q (.ref q) H') ∧
 ((∀x,rs[i]? =some x->uX x n=none)->∀dx H',ai H H'->H' dx=some (vB dx (zK i))->E (.ref C) (some dx) H')
end GP
namespace GP
open PySem L2 iX PySem.NumText
def RV(H:Hp)(v:V):Option aS->Prop
 |none=>v= .gx
 |some f=>∃q,v= .ref q/\H q=some (.tup [.int f.1,.int f.2])
theorem RV.same{H H':Hp}{v:V}{o:Option aS}(e:ai H H')(h:RV H v o):RV H' v o:=by
 cases o with
 |none=>exact h
 |some f=>obtain⟨q,h1,h2⟩:=h;exact⟨q,h1,e _ _ h2⟩
theorem RV.off{H:Hp}{l:Addr}{ys:List V}{u:HO}{v:V}{o:Option aS}(hl:H l=some (.lst ys))(h:RV H v o):RV (L2.upd H l u) v o:=by
 cases o with
 |none=>exact h
 |some f =>
  obtain⟨q,h1,h2⟩:=h
  refine⟨q,h1,?_⟩
  rw[az (λz=>by rw[z,hl]at h2;cases h2)]
  exact h2
theorem RV.kind{K:PySem.W.Frag}{H:Hp}{v:V}{o:Option aS}(h:RV H v o):v= .gx\/∃q ys,v= .ref q/\cL K H q ys:=by
 cases o with
 |none=>exact .inl h
 |some f=>obtain⟨q,h1,h2⟩:=h;exact .inr ⟨q,_,h1,cL.of h2⟩
theorem yN{K:PySem.W.Frag}{H:Hp}:∀{ys:List V} {os:List (Option aS)},Paired (RV H) ys os->∀z∈ys,z= .gx\/∃q zs,z= .ref q/\cL K H q zs
 |[],[],_=>λz hz=>by cases hz
 |y::ys,o::os,.cons h t=>λz hz=>by
  rcases List.mem_cons.mp hz with rfl|hz
  ·exact h.kind
  ·exact yN t z hz
theorem BI{H:Hp}:∀{ys:List V} {os:List (Option aS)},Paired (RV H) ys os->ys.any (λz=>decide (z= .gx))= !(os.all Option.isSome)
 |[],[],_=>rfl
 |y::ys,o::os,.cons h t=>by
  rw[List.any_cons,List.all_cons,BI t]
  cases o with
  |none =>
   rw[show y=V.gx from h]
   rfl
  |some f =>
   obtain⟨q,h1,_⟩:=h
   rw[h1]
   simp
theorem Ew{H:Hp}:∀{ys:List V} {os:List (Option aS)},Paired (RV H) ys os->os.all Option.isSome=true->∃ps:List Addr,ys=ps.map V.ref/\Paired (λp f=>H p=some (.tup [.int f.1,.int f.2])) ps (os.filterMap id)
 |[],[],_,_=>⟨[],rfl,.nil⟩
 |y::ys,o::os,.cons h t,ha=>by
  rw[List.all_cons,Bool.and_eq_true]at ha
  obtain⟨ps,e,hp⟩:=Ew t ha.2
  cases o with
  |none=>exact absurd ha.1 (by decide)
  |some f =>
   obtain⟨q,h1,h2⟩:=h
   exact⟨q::ps,by rw[h1,e];rfl,.cons h2 hp⟩
theorem Ez{x:Str}{n:Nat}(h1:((Txt.split x ⟨#[32]⟩).map oJ).length=n)(h2:((Txt.split x ⟨#[32]⟩).map oJ).all Option.isSome=true):uX x n=some (((Txt.split x ⟨#[32]⟩).map oJ).filterMap id):=if_pos ⟨h1,h2⟩
theorem tN{x:Str}{n:Nat}(h:¬(((Txt.split x ⟨#[32]⟩).map oJ).length=n/\((Txt.split x ⟨#[32]⟩).map oJ).all Option.isSome=true)):uX x n=none:=if_neg h
end GP
namespace GP
open PySem L2 iX PySem.NumText
abbrev f6(rows:List Str):Str:=rows.headD ⟨#[]⟩
def Bm(n j:Nat):Nat:=if j=n+1 then 2 else n
def yq(rows:List Str)(n j:Nat):Bool:=match rows[j]? with
 |some x=>(uX x (Bm n j)).isSome
 |none=>false
structure jP(rows:List Str)(prs:List (List aS))(fo fm:aS):Prop where
 sig:ig (f6 rows)
 len:rows.length=(f6 rows).cps.size+2
 num:prs.length=(f6 rows).cps.size
 row:∀j r,prs[j]? =some r->∃x,rows[j+1]? =some x/\uX x (f6 rows).cps.size=some r
 fin:∃x,rows[(f6 rows).cps.size+1]? =some x/\uX x 2=some [fo,fm]
def mD(rows:List Str)(i:Nat):Prop:=(i=0/\¬ig (f6 rows))\/(ig (f6 rows)/\(∀j,1<=j->j<i->j<=(f6 rows).cps.size+1->yq rows (f6 rows).cps.size j=true) ∧
 ((1<=i/\i<=(f6 rows).cps.size+1/\yq rows (f6 rows).cps.size i=false)\/(i=(f6 rows).cps.size+2/\i<rows.length)))
structure DI(rows:List Str):Prop where
 ne:rows≠[]
 free:∀r∈rows,10∉r.cps.toList
 row:∀r∈rows,r.cps.size<=2000
 len:rows.length<=20
 asc:Lb (f6 rows)
 small:(f6 rows).cps.size<=12
def Iq(prs:List (List aS))(fo fm:aS):Prop:=∀i,Bu (((eN (aZ fo) (aZ fm) (gU prs)).take i).foldl lm 1)
def Bx(K:PySem.W.Frag)(C CN:Addr):Sp:=λvs H Q E=>∃rows:List Str,vs=[.str (jn rows)]/\DI rows ∧
 (∀prs fo fm,jP rows prs fo fm->Iq prs fo fm/\∀x H',ai H H'->H x=none->zV K C H' x (f6 rows) (gU prs) (aZ fo) (aZ fm)->Q (.ref x) H') ∧
 (∀i,mD rows i->∀dx H',ai H H'->H' dx=some (vB dx (zK i))->E (.ref CN) (some dx) H')
theorem DI.jn{rows:List Str}(h:DI rows):(GP.jn rows).length<=200000:=by
 show(GP.jn rows).cps.size<=_
 rw[←Array.length_toList,dZ]
 have h1:=sP 10 (rows.map λr=>r.cps.toList)
 have h2:=wN 2000 ((rows.map λr=>r.cps.toList).map List.length) λx hx=>by
  rw[List.map_map]at hx
  obtain⟨r,hr,rfl⟩:=List.mem_map.mp hx
  show r.cps.toList.length<=2000
  rw[Array.length_toList]
  exact h.row r hr
 rw[List.length_map,List.length_map]at h2
 rw[List.length_map]at h1
 have h3:rows.length*2000<=20*2000:=Nat.mul_le_mul_right _ h.len
 have h4:=h.len
 omega
theorem Jx{x:Str}{f:aS}(h:oJ x=some f):cY f:=by
 unfold oJ F0 at h
 generalize Txt.startswith x ⟨#[45]⟩=b at h
 generalize hq:hdS b (Txt.split x ⟨#[47]⟩)::(Txt.split x ⟨#[47]⟩).tail=qs at h
 have hne:qs.length≠0:=by rw[←hq];simp
 by_cases c:(decide (qs.length>2)|| !qs.all jh)=true
 ·rw[if_pos c]at h;cases h
 ·rw[if_neg c]at h
  by_cases d:Ad qs<1
  ·rw[if_pos d]at h;cases h
  ·rw[if_neg d]at h
   by_cases e:sW (A5 b qs)=x
   ·rw[if_pos e]at h
    cases h
    refine Fq hne ?_ d
    cases hf:qs.all jh with
    |true=>rfl
    |false=>rw[hf]at c;exact absurd (by simp) c
   ·rw[if_neg e]at h;cases h
theorem EA{x:Str}{n:Nat}{fs:List aS}(h:uX x n=some fs):fs.length=n/\∀f∈fs,cY f:=by
 unfold uX at h
 simp only at h
 have key:∀os:List (Option aS),os.all Option.isSome=true->(os.filterMap id).length=os.length:=λos=>by
  induction os with
  |nil=>intro _;rfl
  |cons o os ih =>
   intro ha
   rw[List.all_cons,Bool.and_eq_true]at ha
   cases o with
   |none=>exact absurd ha.1 (by decide)
   |some f=>simp[ih ha.2]
 by_cases c:((Txt.split x ⟨#[32]⟩).map oJ).length=n/\((Txt.split x ⟨#[32]⟩).map oJ).all Option.isSome=true
 ·rw[if_pos c]at h
  cases h
  refine⟨(key _ c.2).trans c.1,λf hf=>?_⟩
  obtain⟨o,ho,e⟩:=List.mem_filterMap.mp hf
  obtain⟨y,hy,rfl⟩:=List.mem_map.mp ho
  exact Jx e
 ·rw[if_neg c]at h;cases h
theorem cY.h{f:aS}(h:cY f):Nf f:=⟨⟨h.pos,uh h.BE⟩,uh h.El⟩
theorem se.off{K:PySem.W.Frag}{H:Hp}{l q:Addr}{ys:List V}{u:HO}{r:List aS}(hl:H l=some (.lst ys))(ne:q≠l)(h:se K H q r):se K (L2.upd H l u) q r:=by
 obtain⟨ps,h1,h2⟩:=h
 exact⟨ps,by rw[az ne];exact h1,Paired.iW h2 λa b z=>cL.off hl z⟩
theorem vC{n j:Nat}(h:j<n):Bm n (j+1)=n:=if_neg (by omega)
theorem wG{n:Nat}:Bm n (n+1)=2:=if_pos rfl
theorem kh{rows:List Str}{n j:Nat}{x:Str}{fs:List aS}(h1:rows[j]? =some x)(h2:uX x (Bm n j)=some fs):yq rows n j=true:=by
 unfold yq
 rw[h1]
 simp only
 rw[h2]
 rfl
theorem lC{rows:List Str}{n j:Nat}(h:∀x,rows[j]? =some x->uX x (Bm n j)=none):yq rows n j=false:=by
 unfold yq
 cases e:rows[j]? with
 |none=>rfl
 |some x=>simp only;rw[h x e];rfl
end GP
namespace GP
open PySem L2 iX PySem.NumText
theorem pU(o:Int):sI o=(if o<0 then(⟨#[45]⟩:Str)else⟨#[]⟩)++sI (o.natAbs:Int):=by
 cases o with
 |ofNat m =>
  rw[if_neg (show ¬(Int.ofNat m)<0 from Int.not_lt.mpr (Int.natCast_nonneg m))]
  refine tw ?_
  rw[fD]
  rfl
 |negSucc m =>
  rw[if_pos (Int.negSucc_lt_zero m)]
  refine tw ?_
  rw[fD]
  show(Str.ofString ("-" ++toString (m+1))).cps.toList=[45]++(Str.ofString (toString ((m+1:Nat):Int))).cps.toList
  rw[PyProof.Rows.signs_ofString,PyProof.Rows.signs_ofString,String.toList_append,List.map_append]
  rfl
def HG(K:PySem.W.Frag):Sp:=λvs H Q _=>∃(p:Addr) (f:aS),vs=[.ref p]/\eB K H p f/\cY f/\Q (.str (sW f)) H
def Eh(K:PySem.W.Frag):Sp:=λvs H Q _=>∃(p:Addr) (f:aS),vs=[.ref p]/\eB K H p f/\cY f/\∀q,H q=none->Q (.ref q) (L2.upd H q (.tup [.int (aZ f).1,.int (aZ f).2]))
theorem zC(a b:Int):Int.gcd (if a<0 then -a else a) b=Int.gcd a b:=by
 split
 ·exact Int.neg_gcd
 ·rfl
theorem wZ{o:Int}(h:o.natAbs<10 ^ 60):(sI o).length<=61:=by
 show(sI o).cps.size<=61
 rw[pU,dX]
 have a:(if o<0 then(⟨#[45]⟩:Str)else⟨#[]⟩).cps.size<=1:=by split<;>decide
 have b:=(o6 o.natAbs h).2
 omega
theorem Aq{f:aS}(h:(aZ f).2=1):sW f=sI (aZ f).1:=by
 unfold sW
 rw[if_neg (show ¬(aZ f).2>1 by omega),pU (aZ f).1]
 exact tw (by rw[fD];simp)
theorem BF{f:aS}(h0:1<=(aZ f).2)(h:¬(aZ f).2=1):sW f=(sI (aZ f).1++(⟨#[47]⟩:Str))++sI (aZ f).2:=by
 unfold sW
 rw[if_pos (show(aZ f).2>1 by omega),pU (aZ f).1]
 exact tw (by simp only[fD,List.append_assoc])
theorem mD.uniq{rows:List Str}{i j:Nat}(h:mD rows i)(h':mD rows j):i=j:=by
 have lt:∀{i j:Nat},mD rows i->mD rows j->¬i<j:=by
  intro i j h h' z
  rcases h' with⟨rfl,_⟩|⟨s',ok',e'⟩
  ·omega
  ·rcases h with⟨_,ns⟩|⟨_,_,e⟩
   ·exact ns s'
   ·rcases e with⟨a,b,c⟩|⟨a,b⟩
    ·rw[ok' i a z b]at c;cases c
    ·rcases e' with⟨_,b',_⟩|⟨a',_⟩<;>omega
 have a:=lt h h'
 have b:=lt h' h
 omega
theorem jP.yq{rows:List Str}{prs:List (List aS)}{fo fm:aS}(h:jP rows prs fo fm):∀j,1<=j->j<=(f6 rows).cps.size+1->GP.yq rows (f6 rows).cps.size j=true:=λj h1 h2=>by
 by_cases z:j=(f6 rows).cps.size+1
 ·obtain⟨x,ex,er⟩:=h.fin
  rw[z]
  exact kh ex (by rw[wG];exact er)
 ·obtain⟨i,rfl⟩:∃i,j=i+1:=⟨j-1,by omega⟩
  obtain⟨x,ex,er⟩:=h.row i _ (List.getElem?_eq_getElem (show i<prs.length by have:=h.num;omega))
  exact kh ex (by rw[vC (by omega)];exact er)
theorem jP.AI{rows:List Str}{prs:List (List aS)}{fo fm:aS}{i:Nat}(h:jP rows prs fo fm)(b:mD rows i):False:=by
 rcases b with⟨_,ns⟩|⟨_,_,⟨a,b,c⟩|⟨a,b⟩⟩
 ·exact ns h.sig
 ·rw[h.yq i a b]at c;cases c
 ·have:=h.len;omega
theorem jP.uniq{rows:List Str}{prs GB:List (List aS)}{fo fm N6 N7:aS}(h:jP rows prs fo fm)(h':jP rows GB N6 N7):prs=GB/\fo=N6/\fm=N7:=by
 obtain⟨x,ex,er⟩:=h.fin
 obtain⟨x',ex',N9⟩:=h'.fin
 rw[ex]at ex'
 cases ex'
 rw[er]at N9
 cases N9
 refine⟨List.ext_getElem (by rw[h.num,h'.num]) λi h1 h2=>?_,rfl,rfl⟩
 obtain⟨y,ey,e⟩:=h.row i _ (List.getElem?_eq_getElem h1)
 obtain⟨y',Uq,e'⟩:=h'.row i _ (List.getElem?_eq_getElem h2)
 rw[ey]at Uq
 cases Uq
 rw[e]at e'
 exact Option.some.inj e'
def tD(K:PySem.W.Frag)(C:Addr):Sp:=λvs H Q _=>∃rows:List Str,vs=[.str (jn rows)]/\DI rows ∧
 ((∃prs fo fm,jP rows prs fo fm/\Iq prs fo fm/\∀q x H',ai H H'->cL K H' q [.str (Str.ofString "read"),.ref x]->zV K C H' x (f6 rows) (gU prs) (aZ fo) (aZ fm)->Q (.ref q) H') ∨
  (∃i:Nat,mD rows i/\∀q H',ai H H'->cL K H' q [.str (Str.ofString "text"),.int i]->Q (.ref q) H'))
def SE(K:PySem.W.Frag)(C CT:Addr)(rows:List Str)(H:Hp)(q:Addr):Prop :=
 (∃prs fo fm x,jP rows prs fo fm/\cL K H q [.str (Str.ofString "read"),.ref x]/\zV K C H x (f6 rows) (gU prs) (aZ fo) (aZ fm)) ∨
 (∃(ea dx:Addr) (i:Nat),cL K H q [.str (Str.ofString "no"),.ref ea]/\H ea=some (F9 ea (.ref CT) (some dx))/\H dx=some (vB dx (zK i))/\mD rows i)
def nN(K:PySem.W.Frag)(H:Hp)(d:Addr)(sg:Str)(rows:List (List aS))(fo fm:aS):Prop:=∃P o m,cL K H d [.str sg,.ref P,.ref o,.ref m]/\om K H P rows/\eB K H o fo/\eB K H m fm
theorem nN.same{K:PySem.W.Frag}{H H':Hp}{d:Addr}{sg:Str}{rows:List (List aS)}{fo fm:aS}(e:ai H H')(h:nN K H d sg rows fo fm):nN K H' d sg rows fo fm:=by
 obtain⟨P,o,m,h1,h2,h3,h4⟩:=h
 exact⟨P,o,m,ai.tup e h1,h2.dat (Dat.of e),h3.same e,h4.same e⟩
theorem mK.Sl{K:PySem.W.Frag}{H:Hp}{p q:Addr}{f:aS}{d:Nat}(hp:eB K H p f)(hq:eB K H q f):mK K H (d+1) (.ref p) (.ref q):=mK.two hp hq (.flat (.inr ⟨_,rfl,rfl⟩)) (.flat (.inr ⟨_,rfl,rfl⟩))
theorem mK.Mb{K:PySem.W.Frag}{H:Hp}{α:Type}{F:Addr->α->Prop}{p q:Addr}{ps qs:List Addr}{l:List α}{d:Nat}(hp:cL K H p (ps.map V.ref))(hq:cL K H q (qs.map V.ref))(h1:Paired F ps l)(h2:Paired F qs l)(hl:l.length<=100)
  (h:∀a b x,F a x->F b x->mK K H d (.ref a) (.ref b)):mK K H (d+1) (.ref p) (.ref q):=by
 have e1:=Paired.len h1
 have e2:=Paired.len h2
 refine .inr ⟨p,q,_,_,rfl,rfl,hp,hq,by rw[List.length_map,List.length_map];omega,by rw[List.length_map];omega,λi x y hx hy=>?_⟩
 obtain⟨a,ea,rfl⟩:=pC hx
 obtain⟨b,eb,rfl⟩:=pC hy
 obtain⟨u,eu,fa⟩:=Paired.at h1 ea
 obtain⟨w,ew,fb⟩:=Paired.at h2 eb
 rw[eu]at ew
 cases ew
 exact h a b u fa fb
theorem mK.row{K:PySem.W.Frag}{H:Hp}{p q:Addr}{r:List aS}{d:Nat}(hp:gH K H (.tup p) r)(hq:gH K H (.tup q) r)(hl:r.length<=100):mK K H (d+2) (.ref p) (.ref q):=by
 obtain⟨ps,h1,h2⟩:=hp
 obtain⟨qs,h3,h4⟩:=hq
 exact mK.Mb h1 h3 h2 h4 hl λa b x fa fb=>mK.Sl fa fb
theorem mK.Q5{K:PySem.W.Frag}{H:Hp}{p q:Addr}{rows:List (List aS)}{d:Nat}(hp:om K H p rows)(hq:om K H q rows)(hl:rows.length<=100)(hr:∀r∈rows,r.length<=100):mK K H (d+3) (.ref p) (.ref q):=by
 obtain⟨ps,h1,h2⟩:=hp
 obtain⟨qs,h3,h4⟩:=hq
 refine mK.Mb (F:=λa r=>gH K H (.tup a) r/\r.length<=100) h1 h3 ?_ ?_ hl λa b x fa fb=>mK.row fa.1 fb.1 fa.2
 ·exact qK (Paired.len h2) λi a b ha hb=>by
   obtain⟨c,ec,fc⟩:=Paired.at h2 ha
   rw[hb]at ec;cases ec
   exact⟨fc,hr b (List.mem_of_getElem? hb)⟩
 ·exact qK (Paired.len h4) λi a b ha hb=>by
   obtain⟨c,ec,fc⟩:=Paired.at h4 ha
   rw[hb]at ec;cases ec
   exact⟨fc,hr b (List.mem_of_getElem? hb)⟩
theorem mK.four{K:PySem.W.Frag}{H:Hp}{p q:Addr}{a b c e a' b' c' e':V}{d:Nat}(hp:cL K H p [a,b,c,e])(hq:cL K H q [a',b',c',e'])(h1:mK K H d a a')(h2:mK K H d b b')(h3:mK K H d c c')(h4:mK K H d e e'):mK K H (d+1) (.ref p) (.ref q):=by
 refine .inr ⟨p,q,_,_,rfl,rfl,hp,hq,rfl,by show 4<=100;decide,λi x y hx hy=>?_⟩
 match i,hx,hy with
 | 0,hx,hy=>cases hx;cases hy;exact h1
 | 1,hx,hy=>cases hx;cases hy;exact h2
 | 2,hx,hy=>cases hx;cases hy;exact h3
 | 3,hx,hy=>cases hx;cases hy;exact h4
def pQ(K:PySem.W.Frag):Sp:=λvs H Q _=>∃(rows:List Str) (d:Addr) (prs:List (List aS)) (fo fm:aS),vs=[.str (jn rows),.ref d]/\DI rows/\jP rows prs fo fm/\Iq prs fo fm/\nN K H d (f6 rows) (gU prs) (aZ fo) (aZ fm)/\∀H',ai H H'->Q (.bl true) H'
end GP
namespace GP
open PySem L2 iX PySem.NumText
structure Tab(sg:Str)(R:List (List aS))(fo fm:aS):Prop where
 sig:ig sg
 sm:sg.cps.size<=11
 n8:Bc sg.cps.size R
 ok:∀r∈R,∀f∈r,DG f
 pY:DG fo
 pq:DG fm
theorem DG.fr{f:aS}(h:DG f):cY f:=⟨h.1,h.2.2,Nat.lt_of_le_of_lt (show f.2.natAbs<=999 by have:=h.1;have:=h.2.1;omega) (by decide +kernel)⟩
theorem cY.low{f:aS}(h:cY f):zW (aZ f):=by
 have g:=k6 h
 have:=g.BE
 have:=g.pos
 exact⟨gF (by have:=h.pos;omega),g.pos,g.El,by omega⟩
theorem BG{f:aS}(h:cY f):sW (aZ f)=sW f:=by
 unfold sW
 rw[gF (by have:=h.pos;omega)]
theorem EV{r:List aS}(h:∀f∈r,cY f):(r.map aZ).map sW=r.map sW:=by
 rw[List.map_map]
 exact List.map_congr_left λf hf=>BG (h f hf)
theorem BJ{r:List aS}(hne:r≠[])(h:∀f∈r,cY f):uX (jb (r.map sW)) r.length=some (r.map aZ):=by
 have z:=Jz (fs:=r.map aZ) (by simpa using hne) (λf hf=>by
  obtain⟨g,hg,rfl⟩:=List.mem_map.mp hf
  exact(h g hg).low)
 rw[EV h,List.length_map]at z
 exact z
theorem D9{sg:Str}{R:List (List aS)}{fo fm:aS}{j:Nat}{r:List aS}(h:R[j]? =some r):(gy sg R fo fm)[j+1]? =some (jb (r.map sW)):=by
 have hj:=(List.getElem?_eq_some_iff.mp h).1
 show(R.map (λr=>jb (r.map sW))++[jb [sW fo,sW fm]])[j]? =_
 rw[List.getElem?_append_left (by rw[List.length_map];exact hj),List.getElem?_map,h]
 rfl
theorem Bp{sg:Str}{R:List (List aS)}{fo fm:aS}:(gy sg R fo fm)[R.length+1]? =some (jb [sW fo,sW fm]):=by
 show(R.map (λr=>jb (r.map sW))++[jb [sW fo,sW fm]])[R.length]? =_
 rw[List.getElem?_append_right (by rw[List.length_map];exact Nat.le_refl _),List.length_map,Nat.sub_self]
 rfl
theorem j5{sg:Str}{R:List (List aS)}{fo fm:aS}:(gy sg R fo fm).length=R.length+2:=by
 unfold gy
 rw[List.length_cons,List.length_append,List.length_map]
 rfl
theorem Ci{sg:Str}{R:List (List aS)}{fo fm:aS}(sig:ig sg)(n8:Bc sg.cps.size R)(ok:∀r∈R,∀f∈r,cY f)(pY:cY fo)(pq:cY fm):jP (gy sg R fo fm) (gU R) (aZ fo) (aZ fm):=by
 refine⟨sig,by rw[j5,n8.1];rfl,by unfold gU;rw[List.length_map,n8.1];rfl,λj r hr=>?_,?_⟩
 ·unfold gU at hr
  rw[List.getElem?_map]at hr
  cases e:R[j]? with
  |none=>rw[e]at hr;cases hr
  |some r0 =>
   rw[e]at hr
   cases hr
   have hm:=List.mem_of_getElem? e
   have hl:=n8.2 r0 hm
   refine⟨_,D9 e,?_⟩
   have z:=BJ (r:=r0) (λz=>by rw[z]at hl;have:=sig.1;simp at hl;omega) (ok r0 hm)
   rw[hl]at z
   exact z
 ·refine⟨_,by show(gy sg R fo fm)[sg.cps.size+1]? =_;rw[←n8.1];exact Bp,?_⟩
  exact BJ (r:=[fo,fm]) (by simp) λf hf=>by
   rcases List.mem_cons.mp hf with rfl|hf
   ·exact pY
   ·rw[List.mem_singleton.mp hf];exact pq
theorem zo{c:Nat}:∀{p:List (List Nat)} {x:Nat},x∈rY c p->x=c\/∃a∈p,x∈a
 |[],_,h=>by cases h
 |[a],_,h=>.inr ⟨a,List.mem_singleton.mpr rfl,h⟩
 |a::b::r,x,h=>by
  rcases List.mem_append.mp (show x∈a++c::rY c (b::r) from h)with h|h
  ·exact .inr ⟨a,List.mem_cons_self,h⟩
  ·rcases List.mem_cons.mp h with h|h
   ·exact .inl h
   ·rcases zo h with h|⟨d,hd,h⟩
    ·exact .inl h
    ·exact .inr ⟨d,List.mem_cons_of_mem _ hd,h⟩
theorem xC{ps:List Str}{c:Nat}(hc:c≠32)(h:∀p∈ps,c∉p.cps.toList):c∉(jb ps).cps.toList:=λz=>by
 rw[dZ]at z
 rcases zo z with z|⟨a,ha,z⟩
 ·exact hc z
 ·obtain⟨p,hp,rfl⟩:=List.mem_map.mp ha
  exact h p hp z
theorem lA{f:aS}(h:cY f){c:Nat}(hc:c<45\/c=46\/57<c):c∉(sW f).cps.toList:=by
 rw[←BG h]
 exact BH h.low hc
theorem pS{c:Nat}(h:fR c=true):32<=c/\c<=126:=by
 unfold fR at h
 rw[Bool.and_eq_true,Bool.and_eq_true,decide_eq_true_eq,decide_eq_true_eq]at h
 omega
theorem ig.asc{sg:Str}(h:ig sg):Lb sg:=⟨h.2.1,λc hc=>by have:=pS (h.2.2.1 c hc);omega⟩
theorem D8{sg:Str}{R:List (List aS)}{fo fm:aS}(sig:ig sg)(ok:∀r∈R,∀f∈r,cY f)(pY:cY fo)(pq:cY fm):∀r∈gy sg R fo fm,10∉r.cps.toList:=by
 intro z hz
 unfold gy at hz
 rcases List.mem_cons.mp hz with rfl|hz
 ·intro h
  have:=pS (sig.2.2.1 10 h)
  omega
 rcases List.mem_append.mp hz with hz|hz
 ·obtain⟨r,hr,rfl⟩:=List.mem_map.mp hz
  refine xC (by decide) λp hp=>?_
  obtain⟨f,hf,rfl⟩:=List.mem_map.mp hp
  exact lA (ok r hr f hf) (by omega)
 ·rw[List.mem_singleton.mp hz]
  refine xC (by decide) λp hp=>?_
  rcases List.mem_cons.mp hp with rfl|hp
  ·exact lA pY (by omega)
  ·rw[List.mem_singleton.mp hp];exact lA pq (by omega)
theorem E3{sg:Str}{R:List (List aS)}{fo fm:aS}(sig:ig sg)(sm:sg.cps.size<=12)(n8:Bc sg.cps.size R)(ok:∀r∈R,∀f∈r,cY f)(pY:cY fo)(pq:cY fm):DI (gy sg R fo fm):=by
 refine⟨by unfold gy;simp,D8 sig ok pY pq,sL n8 sm ok pY pq,?_,sig.asc,sm⟩
 rw[j5,n8.1]
 omega
def wU(b:Int):Nat:=if b<=999 then 10 else 200
theorem Le{b:Int}(h1:1<=b)(h2:b.natAbs<10 ^ 60):b.natAbs<=2 ^ wU b:=by
 unfold wU
 split
 ·exact Nat.le_trans (show b.natAbs<=1024 by omega) (by decide)
 ·exact Nat.le_of_lt (Nat.lt_of_lt_of_le h2 (by decide +kernel))
theorem sX:∀{l:List Int},(∀b∈l,b<=999)->(l.map wU).sum=10*l.length
 |[],_=>rfl
 |b::l,h=>by
  rw[List.map_cons,List.sum_cons,sX λc hc=>h c (List.mem_cons_of_mem _ hc),List.length_cons]
  unfold wU
  rw[if_pos (h b List.mem_cons_self)]
  omega
theorem yG(w:Int->Nat):∀(l:List Int) (i:Nat),((l.take i).map w).sum<=(l.map w).sum
 |[],i=>by simp
 |b::l,0=>Nat.zero_le _
 |b::l,i+1=>by
  rw[List.take_succ_cons,List.map_cons,List.map_cons,List.sum_cons,List.sum_cons]
  exact Nat.add_le_add_left (yG w l i) _
theorem Hx{l:List Int}(h1:∀b∈l,1<=b/\b.natAbs<10 ^ 60)(h2:(l.map wU).sum<=4380):∀i,Bu ((l.take i).foldl lm 1):=λi=>by
 have z:=Fv wU (l.take i) (u:=1) λb hb=>Le (h1 b (List.mem_of_mem_take hb)).1 (h1 b (List.mem_of_mem_take hb)).2
 have e:(1:Int).natAbs=1:=rfl
 rw[e,Nat.one_mul]at z
 exact Nat.le_trans z (Nat.pow_le_pow_right (by decide) (Nat.le_trans (yG wU l i) h2))
theorem wH{fo fm:aS}{R:List (List aS)}{p:Int->Prop}(ho:p fo.2)(hm:p fm.2)(h:∀r∈R,∀f∈r,p f.2):∀b∈eN fo fm R,p b:=λb hb=>by
 rcases List.mem_cons.mp hb with rfl|hb
 ·exact ho
 rcases List.mem_cons.mp hb with rfl|hb
 ·exact hm
 obtain⟨f,hf,rfl⟩:=List.mem_map.mp hb
 obtain⟨r,hr,hfr⟩:=List.mem_flatten.mp hf
 exact h r hr f hfr
theorem cY.DN{f:aS}(h:cY f):1<=(aZ f).2/\(aZ f).2.natAbs<10 ^ 60:=⟨(k6 h).pos,(k6 h).BE⟩
theorem DG.DN{f:aS}(h:DG f):(aZ f).2<=999:=by
 have l:=lo_le f.1 (show 0<f.2 by have:=h.1;omega)
 have l2:(aZ f).2<=f.2:=l
 have:=h.2.1
 omega
theorem zl{n:Nat}{R:List (List aS)}(h:Bc n R):(gU R).flatten.length=n*n:=by
 rw[uE (xA h).2,(xA h).1]
theorem D6{sg:Str}{R:List (List aS)}{fo fm:aS}(T:Tab sg R fo fm):Iq R fo fm:=by
 refine Hx (wH T.pY.fr.DN T.pq.fr.DN (lX λr hr f hf=>(T.ok r hr f hf).fr.DN)) ?_
 rw[sX (wH T.pY.DN T.pq.DN (lX λr hr f hf=>(T.ok r hr f hf).DN))]
 unfold eN
 rw[List.length_cons,List.length_cons,List.length_map,zl T.n8]
 have:sg.cps.size*sg.cps.size<=11*11:=Nat.mul_le_mul T.sm T.sm
 omega
theorem D5{R:List (List aS)}{fo fm:aS}(h:Iq R fo fm)(hR:∀r∈R,∀f∈r,cY f)(ho:cY fo)(hm:cY fm):Iq (gU R) (aZ fo) (aZ fm):=by
 unfold Iq at h ⊢
 rw[gF (by have:=ho.pos;omega),gF (by have:=hm.pos;omega),show gU (gU R)=gU R from by
  unfold gU
  rw[List.map_map]
  exact List.map_congr_left λr hr=>by
   show(r.map aZ).map aZ=r.map aZ
   rw[List.map_map]
   exact List.map_congr_left λf hf=>gF (by have:=(hR r hr f hf).pos;omega)]
 exact h
end GP
namespace GP
open PySem L2 iX PySem.NumText
theorem BK{x:Str}{n:Nat}(h:(Txt.split x ⟨#[32]⟩).length≠n):uX x n=none:=tN λz=>h (by rw[←z.1,List.length_map])
theorem BL{x p:Str}{n:Nat}(h1:p∈Txt.split x ⟨#[32]⟩)(h2:oJ p=none):uX x n=none:=tN λz=>by
 have:=List.all_eq_true.mp z.2 _ (List.mem_map_of_mem h1)
 rw[h2]at this
 cases this
theorem tZ{rows rows':List Str}{n j:Nat}(h:rows'[j]? =rows[j]?):yq rows' n j=yq rows n j:=by
 unfold yq
 rw[h]
theorem Cg{rows:List Str}{k:Nat}{x:Str}(h:1<=k):f6 (rows.set k x)=f6 rows:=by
 cases rows with
 |nil=>rfl
 |cons a t=>obtain⟨k,rfl⟩:∃i,k=i+1:=⟨k-1,by omega⟩;rfl
theorem Ho{rows:List Str}{prs:List (List aS)}{fo fm:aS}{k:Nat}{x:Str}(G:jP rows prs fo fm)(h1:1<=k)(h2:k<=(f6 rows).cps.size+1)(hb:uX x (Bm (f6 rows).cps.size k)=none):mD (rows.set k x) k:=by
 have hh:=Cg (rows:=rows) (x:=x) h1
 refine .inr ⟨by rw[hh];exact G.sig,λj j1 j2 j3=>?_,.inl ⟨h1,by rw[hh];exact h2,?_⟩⟩
 ·rw[hh]at j3 ⊢
  rw[tZ (List.getElem?_set_ne (by omega))]
  exact G.yq j j1 j3
 ·rw[hh]
  exact lC λy hy=>by
   rw[List.getElem?_set_self (by have:=G.len;omega)]at hy
   cases hy
   exact hb
theorem KG{rows:List Str}{x:Str}(hne:rows≠[])(h:¬ig x):mD (rows.set 0 x) 0:=.inl ⟨rfl,by
 cases rows with
 |nil=>exact absurd rfl hne
 |cons a t=>exact h⟩
theorem xE{rows:List Str}{x:Str}(hne:rows≠[]):f6 (rows++[x])=f6 rows:=by
 cases rows with
 |nil=>exact absurd rfl hne
 |cons a t=>rfl
theorem FP{rows:List Str}{prs:List (List aS)}{fo fm:aS}{x:Str}(hne:rows≠[])(G:jP rows prs fo fm):mD (rows++[x]) ((f6 rows).cps.size+2):=by
 have hh:=xE (x:=x) hne
 refine .inr ⟨by rw[hh];exact G.sig,λj j1 j2 j3=>?_,.inr ⟨by rw[hh],by rw[List.length_append,G.len];show _<_+2+1;omega⟩⟩
 rw[hh]at j3 ⊢
 rw[tZ (List.getElem?_append_left (by have:=G.len;omega))]
 exact G.yq j j1 j3
theorem mD.app{rows:List Str}{i:Nat}{x:Str}(hne:rows≠[])(hi:i<rows.length)(h:mD rows i):mD (rows++[x]) i:=by
 have hh:=xE (x:=x) hne
 rcases h with⟨a,b⟩|⟨a,b,c⟩
 ·exact .inl ⟨a,by rw[hh];exact b⟩
 ·refine .inr ⟨by rw[hh];exact a,λj j1 j2 j3=>?_,?_⟩
  ·rw[hh]at j3 ⊢
   rw[tZ (List.getElem?_append_left (by omega))]
   exact b j j1 j2 j3
  ·rcases c with⟨c1,c2,c3⟩|⟨c1,c2⟩
   ·exact .inl ⟨c1,by rw[hh];exact c2,by rw[hh,tZ (List.getElem?_append_left hi)];exact c3⟩
   ·exact .inr ⟨by rw[hh];exact c1,by rw[List.length_append];show i<_+1;omega⟩
theorem vY{rows:List Str}{k:Nat}(h:1<=k):f6 (rows.eraseIdx k)=f6 rows:=by
 cases rows with
 |nil=>rfl
 |cons a t=>obtain⟨k,rfl⟩:∃i,k=i+1:=⟨k-1,by omega⟩;rfl
theorem Hq{rows:List Str}{prs:List (List aS)}{fo fm:aS}{k:Nat}(G:jP rows prs fo fm)(h1:1<=k)(h2:k<=(f6 rows).cps.size+1):
  mD (rows.eraseIdx k) (if(f6 rows).cps.size=2\/k=(f6 rows).cps.size+1 then(f6 rows).cps.size+1 else(f6 rows).cps.size):=by
 have hh:=vY (rows:=rows) h1
 have hl:(rows.eraseIdx k).length=(f6 rows).cps.size+1:=by rw[List.length_eraseIdx,if_pos (by have:=G.len;omega),G.len];rfl
 have lo:∀j,j<k->(rows.eraseIdx k)[j]? =rows[j]? :=λj hj=>by rw[List.getElem?_eraseIdx_of_lt hj]
 have up:∀j,k<=j->(rows.eraseIdx k)[j]? =rows[j+1]? :=λj hj=>by rw[List.getElem?_eraseIdx_of_ge hj]
 have hn:0<(f6 rows).cps.size:=G.sig.1
 have KY:∀j,1<=j->j<(f6 rows).cps.size->yq (rows.eraseIdx k) (f6 rows).cps.size j=true:=λj j1 j2=>by
  obtain⟨i,rfl⟩:∃i,j=i+1:=⟨j-1,by omega⟩
  by_cases z:i+1<k
  ·obtain⟨x,ex,er⟩:=G.row i _ (List.getElem?_eq_getElem (show i<prs.length by have:=G.num;omega))
   exact kh (by rw[lo _ z];exact ex) (by rw[vC (by omega)];exact er)
  ·obtain⟨x,ex,er⟩:=G.row (i+1) _ (List.getElem?_eq_getElem (show i+1<prs.length by have:=G.num;omega))
   exact kh (by rw[up _ (by omega)];exact ex) (by rw[vC (by omega)];exact er)
 obtain⟨xe,Ur,MV⟩:=G.fin
 by_cases hk:k=(f6 rows).cps.size+1
 ·rw[if_pos (.inr hk)]
  refine .inr ⟨by rw[hh];exact G.sig,λj j1 j2 j3=>?_,.inl ⟨by omega,by rw[hh];exact Nat.le_refl _,?_⟩⟩
  ·rw[hh]
   rw[tZ (lo j (by omega))]
   exact G.yq j j1 (by omega)
  ·rw[hh]
   exact lC λy hy=>by rw[List.getElem?_eq_none (by omega)]at hy;cases hy
 ·by_cases h22:(f6 rows).cps.size=2
  ·rw[if_pos (.inl h22)]
   refine .inr ⟨by rw[hh];exact G.sig,λj j1 j2 j3=>?_,.inl ⟨by omega,by rw[hh];exact Nat.le_refl _,?_⟩⟩
   ·rw[hh]
    by_cases z:j<(f6 rows).cps.size
    ·exact KY j j1 z
    ·have ej:j=(f6 rows).cps.size:=by omega
     refine kh (by rw[up j (by omega),ej];exact Ur) (fs:=[fo,fm]) ?_
     rw[show Bm (f6 rows).cps.size j=2 by unfold Bm;rw[if_neg (by omega)];exact h22]
     exact MV
   ·rw[hh]
    exact lC λy hy=>by rw[List.getElem?_eq_none (by omega)]at hy;cases hy
  ·rw[if_neg (λz=>z.elim h22 hk)]
   refine .inr ⟨by rw[hh];exact G.sig,λj j1 j2 j3=>?_,.inl ⟨hn,by rw[hh];omega,?_⟩⟩
   ·rw[hh]
    exact KY j j1 j2
   ·rw[hh]
    refine lC λy hy=>?_
    rw[up _ (by omega),Ur]at hy
    cases hy
    rw[show Bm (f6 rows).cps.size (f6 rows).cps.size=(f6 rows).cps.size by unfold Bm;rw[if_neg (by omega)]]
    refine BK λz=>h22 ?_
    unfold uX at MV
    simp only at MV
    by_cases c:((Txt.split xe ⟨#[32]⟩).map oJ).length=2/\((Txt.split xe ⟨#[32]⟩).map oJ).all Option.isSome=true
    ·rw[←z,←c.1,List.length_map]
    ·rw[if_neg c]at MV;cases MV
theorem uq{ps:List Str}(hne:ps≠[])(h:∀p∈ps,32∉p.cps.toList):Txt.split (jb ps) ⟨#[32]⟩=ps:=jD hne h
theorem zm{c:Nat}:∀{p:List (List Nat)} {y:List Nat},p≠[]->rY c (p++[y])=rY c p++c::y
 |[],_,h=>absurd rfl h
 |[a],y,_=>rfl
 |a::b::r,y,_=>by
  show a++c::rY c ((b::r)++[y])=(a++c::rY c (b::r))++c::y
  rw[zm (by simp),List.append_assoc]
  rfl
theorem B4{ps:List Str}{y z:Str}(hne:ps≠[])(hz:z.cps.toList=32::y.cps.toList):jb ps++z=jb (ps++[y]):=tw (by
 rw[fD,dZ,dZ,List.map_append,hz]
 exact(zm (by simpa using hne)).symm)
theorem GY{ps:List Str}(hne:ps≠[]):(⟨#[32]⟩:Str)++jb ps=jb ((⟨#[]⟩:Str)::ps):=tw (by
 rw[fD,dZ,dZ]
 cases ps with
 |nil=>exact absurd rfl hne
 |cons a t=>rfl)
theorem Gv:oJ ⟨#[]⟩=none:=by decide +kernel
def Hs(x:Str):Bool:=(oJ x).isNone&&x.cps.toList.all (λc=>decide (c≠32)&&decide (c≠10))&&decide (x.cps.size<=122)
def tG:List Str:=[Str.ofString "00",Str.ofString "+1",Str.ofString "1/",Str.ofString "/2",Str.ofString "2/4",Str.ofString "3/1",Str.ofString "1/-2",Str.ofString "-0",Str.ofString "1.5",Str.ofString "a",Str.ofString "1//2",Str.ofString "1/02",Str.ofString "01/2",Str.ofString "-",Str.ofString "--1",Str.ofString "1/0",
 Str.ofString "0/3",Str.ofString "-0/3",Str.ofString "1/2/3",Str.ofString "",Str.ofString "-6/4",Str.ofString "1000000000000000000000000000000000000000000000000000000000000",Str.ofString "1/1000000000000000000000000000000000000000000000000000000000000",Str.ofString "1_0",Str.ofString "1\t",Str.ofString "\t1",Str.ofString "1/2\t",Str.ofString "1/2_0"]
theorem CK:tG.all Hs=true:=by decide +kernel
end GP
namespace GP
open PySem L2 iX PySem.NumText
def Bt(K:PySem.W.Frag):Sp:=λvs H Q _=>∃(m:Int) (l d:Addr) (sg:Str) (R:List (List aS)) (fo fm:aS),vs=[.int m,.ref l,.ref d]/\0<=m/\H l=some (.lst ((gy sg R fo fm).map V.str))/\nN K H d sg (gU R) (aZ fo) (aZ fm)/\Tab sg R fo fm/\∀H',ai H H'->Q (.bl true) H'
def zQ(g:aS):Prop:=cY g/\aZ g=g
theorem MG{H:Hp}{p1 t1 p2 t2 p3 t3 l:Addr}{a1 b1 a2 b2 a3 b3:HO}(c:HO)(h1:H p1=none)(h2:L2.upd H p1 a1 t1=none)(h3:L2.upd (L2.upd H p1 a1) t1 b1 p2=none)(h4:L2.upd (L2.upd (L2.upd H p1 a1) t1 b1) p2 a2 t2=none)
  (h5:L2.upd (L2.upd (L2.upd (L2.upd H p1 a1) t1 b1) p2 a2) t2 b2 p3=none) (h6:L2.upd (L2.upd (L2.upd (L2.upd (L2.upd H p1 a1) t1 b1) p2 a2) t2 b2) p3 a3 t3=none) (h7:L2.upd (L2.upd (L2.upd (L2.upd (L2.upd (L2.upd H p1 a1) t1 b1) p2 a2) t2 b2) p3 a3) t3 b3 l=none) :
  ∃F,F=L2.upd (L2.upd (L2.upd (L2.upd (L2.upd (L2.upd (L2.upd H p1 a1) t1 b1) p2 a2) t2 b2) p3 a3) t3 b3) l c/\ai H F/\F p1=some a1/\F t1=some b1/\F p2=some a2/\F t2=some b2/\F p3=some a3/\F t3=some b3/\F l=some c:=by
 have s7:=ai.upd (o:=c) h7
 have s6:=(ai.upd (o:=b3) h6).trans s7
 have s5:=(ai.upd (o:=a3) h5).trans s6
 have s4:=(ai.upd (o:=b2) h4).trans s5
 have s3:=(ai.upd (o:=a2) h3).trans s4
 have s2:=(ai.upd (o:=b1) h2).trans s3
 have s1:=(ai.upd (o:=a1) h1).trans s2
 exact⟨_,rfl,s1,s2 _ _ af,s3 _ _ af,s4 _ _ af,s5 _ _ af,s6 _ _ af,s7 _ _ af,af⟩
theorem AW{a b:Int}(h:Int.gcd a b=1):aZ (a,b)=(a,b):=by
 unfold aZ lo
 simp only
 rw[h]
 simp
theorem Lw{G:Int}(h1:1<G)(h2:G<10 ^ 60):zQ (G,1)/\sW (G,1)=sI G:=by
 have e:aZ (G,1)=(G,1):=AW (by simp)
 refine⟨⟨⟨by show(1:Int)<=1;decide,by show G.natAbs<_;omega,Nat.one_lt_pow (by decide) (by decide)⟩,e⟩,?_⟩
 rw[Aq (by rw[e]),e]
theorem Lv{G:Int}(h1:1<G)(h2:G<10 ^ 60):zQ (-1,G)/\sW (-1,G)=Str.ofString "-1/" ++sI G:=by
 have e:aZ (-1,G)=(-1,G):=AW (by simp)
 refine⟨⟨⟨by show(1:Int)<=G;omega,Nat.one_lt_pow (by decide) (by decide),by show G.natAbs<_;omega⟩,e⟩,?_⟩
 rw[BF (by rw[e];show(1:Int)<=G;omega) (by rw[e];show ¬G=1;omega),e]
 rw[show sI (-1)++(⟨#[47]⟩:Str)=Str.ofString "-1/" by decide +kernel]
theorem Lu{G:Int}(h1:1<G)(h2:G<10 ^ 60):zQ (-G,1)/\sW (-G,1)=Str.ofString "-" ++sI G:=by
 have e:aZ (-G,1)=(-G,1):=AW (by simp)
 refine⟨⟨⟨by show(1:Int)<=1;decide,by show(-G).natAbs<_;omega,Nat.one_lt_pow (by decide) (by decide)⟩,e⟩,?_⟩
 rw[Aq (by rw[e]),e,pU,if_pos (show -G<0 by omega),show(-G).natAbs=G.natAbs by omega,show((G.natAbs:Nat):Int)=G by omega]
 rfl
theorem Gr{sg:Str}{f0 g:aS}{rt:List aS}{Rt:List (List aS)}{fo fm:aS}(T:Tab sg ((f0::rt)::Rt) fo fm)(hg:zQ g):
  Bc sg.cps.size ((g::rt)::Rt)/\(∀r∈(g::rt)::Rt,∀f∈r,cY f)/\Iq ((g::rt)::Rt) fo fm:=by
 have sq:Bc sg.cps.size ((g::rt)::Rt):=⟨T.n8.1,λr hr=>by
  rcases List.mem_cons.mp hr with rfl|hr
  ·exact T.n8.2 (f0::rt) List.mem_cons_self
  ·exact T.n8.2 r (List.mem_cons_of_mem _ hr)⟩
 have ok:∀r∈(g::rt)::Rt,∀f∈r,cY f:=λr hr f hf=>by
  rcases List.mem_cons.mp hr with rfl|hr
  ·rcases List.mem_cons.mp hf with rfl|hf
   ·exact hg.1
   ·exact(T.ok _ List.mem_cons_self f (List.mem_cons_of_mem _ hf)).fr
  ·exact(T.ok r (List.mem_cons_of_mem _ hr) f hf).fr
 refine⟨sq,ok,Hx (wH T.pY.fr.DN T.pq.fr.DN (lX λr hr f hf=>(ok r hr f hf).DN)) ?_⟩
 have hl:=zl sq
 have rest:∀b∈((rt.map aZ++(gU Rt).flatten).map (·.2):List Int),b<=999:=λb hb=>by
  obtain⟨f,hf,rfl⟩:=List.mem_map.mp hb
  rcases List.mem_append.mp hf with hf|hf
  ·obtain⟨e,he,rfl⟩:=List.mem_map.mp hf
   exact(T.ok _ List.mem_cons_self e (List.mem_cons_of_mem _ he)).DN
  ·obtain⟨r,hr,hfr⟩:=List.mem_flatten.mp hf
   exact(lX (p:=λf=>f.2<=999) (rows:=Rt) λr hr f hf=>(T.ok r (List.mem_cons_of_mem _ hr) f hf).DN) r hr f hfr
 have e:eN (aZ fo) (aZ fm) (gU ((g::rt)::Rt))=(aZ fo).2::(aZ fm).2::(aZ g).2::(rt.map aZ++(gU Rt).flatten).map (·.2):=rfl
 have e2:(gU ((g::rt)::Rt)).flatten.length=(rt.map aZ++(gU Rt).flatten).length+1:=rfl
 rw[e,List.map_cons,List.map_cons,List.map_cons,List.sum_cons,List.sum_cons,List.sum_cons,sX rest,List.length_map]
 have b1:∀b:Int,wU b<=200:=λb=>by unfold wU;split<;>decide
 have:=b1 (aZ fo).2
 have:=b1 (aZ fm).2
 have:=b1 (aZ g).2
 have:sg.cps.size*sg.cps.size<=11*11:=Nat.mul_le_mul T.sm T.sm
 omega
end GP
namespace GP
open PySem L2 iX PySem.NumText
structure KJ(sg:Str)(rows:List Str)(i:Nat):Prop where
 bad:mD rows i
 ok:DI rows
 len:rows.length<=15
 at_:rows.length=sg.cps.size+2->i<rows.length
structure Cl(p:Str):Prop where
 a:32∉p.cps.toList
 b:10∉p.cps.toList
 c:p.cps.size<=122
theorem B5{qs:List Str}(h:∀p∈qs,Cl p)(hl:qs.length<=13):(jb qs).cps.size<=2000:=by
 rw[←Array.length_toList,dZ]
 have h1:=sP 32 (qs.map λr=>r.cps.toList)
 have h2:=wN 122 ((qs.map λr=>r.cps.toList).map List.length) λx hx=>by
  rw[List.map_map]at hx
  obtain⟨p,hp,rfl⟩:=List.mem_map.mp hx
  show p.cps.toList.length<=122
  rw[Array.length_toList]
  exact(h p hp).c
 rw[List.length_map,List.length_map]at h2
 rw[List.length_map]at h1
 have h3:qs.length*122<=13*122:=Nat.mul_le_mul_right _ hl
 omega
theorem cY.cl{f:aS}(h:cY f):Cl (sW f):=⟨lA h (by omega),lA h (by omega),mY h⟩
theorem Tab.frs{sg:Str}{R:List (List aS)}{fo fm:aS}(T:Tab sg R fo fm):∀r∈R,∀f∈r,cY f:=λr hr f hf=>(T.ok r hr f hf).fr
theorem Tab.good{sg:Str}{R:List (List aS)}{fo fm:aS}(T:Tab sg R fo fm):jP (gy sg R fo fm) (gU R) (aZ fo) (aZ fm):=Ci T.sig T.n8 T.frs T.pY.fr T.pq.fr
theorem Tab.HS{sg:Str}{R:List (List aS)}{fo fm:aS}(T:Tab sg R fo fm):DI (gy sg R fo fm):=E3 T.sig (by have:=T.sm;omega) T.n8 T.frs T.pY.fr T.pq.fr
theorem Tab.length{sg:Str}{R:List (List aS)}{fo fm:aS}(T:Tab sg R fo fm):(gy sg R fo fm).length=sg.cps.size+2:=by rw[j5,T.n8.1]
theorem Tab.row{sg:Str}{R:List (List aS)}{fo fm:aS}(T:Tab sg R fo fm){k:Nat}(h1:1<=k)(h2:k<=sg.cps.size+1):∃fs:List aS,(gy sg R fo fm)[k]? =some (jb (fs.map sW))/\fs.length=Bm sg.cps.size k/\fs≠[]/\fs.length<=12/\∀f∈fs,cY f:=by
 have hn:=T.sig.1
 have hm:=T.sm
 by_cases z:k=sg.cps.size+1
 ·refine⟨[fo,fm],by rw[z,←T.n8.1];exact Bp,by rw[z,wG];rfl,by simp,by show 2<=12;decide,λf hf=>?_⟩
  rcases List.mem_cons.mp hf with rfl|hf
  ·exact T.pY.fr
  ·rw[List.mem_singleton.mp hf];exact T.pq.fr
 ·obtain⟨j,rfl⟩:∃j,k=j+1:=⟨k-1,by omega⟩
  have hj:j<R.length:=by rw[T.n8.1];omega
  have hl:=T.n8.2 _ (List.getElem_mem hj)
  refine⟨R[j],D9 (List.getElem?_eq_getElem hj),by rw[hl,vC (by omega)],λz=>?_,by omega,T.frs _ (List.getElem_mem hj)⟩
  rw[z]at hl
  simp at hl
  omega
theorem GQ{rows:List Str}{k:Nat}{x:Str}(L:DI rows)(h1:1<=k)(h2:10∉x.cps.toList)(h3:x.cps.size<=2000):DI (rows.set k x):=by
 have hh:=Cg (rows:=rows) (x:=x) h1
 refine⟨λz=>L.ne (by rw[←List.length_eq_zero_iff,←List.length_set (i:=k) (a:=x),z];rfl),λr hr=>?_,λr hr=>?_,by rw[List.length_set];exact L.len,by rw[hh];exact L.asc,by rw[hh];exact L.small⟩
 ·rcases List.mem_or_eq_of_mem_set hr with hr|rfl
  ·exact L.free r hr
  ·exact h2
 ·rcases List.mem_or_eq_of_mem_set hr with hr|rfl
  ·exact L.row r hr
  ·exact h3
theorem Br{sg:Str}{R:List (List aS)}{fo fm:aS}{k:Nat}{qs:List Str}(T:Tab sg R fo fm)(h1:1<=k)(h2:k<=sg.cps.size+1)(hq:∀p∈qs,Cl p)(hl:qs.length<=13)(h:qs=[]\/qs.length≠Bm sg.cps.size k\/∃p∈qs,oJ p=none):
  KJ sg ((gy sg R fo fm).set k (jb qs)) k:=by
 have hm:=T.sm
 refine⟨Ho T.good h1 h2 ?_,GQ T.HS h1 (xC (by decide) λp hp=>(hq p hp).b) (B5 hq hl),by rw[List.length_set,T.length];omega,λ_=>by rw[List.length_set,T.length];omega⟩
 by_cases z:qs=[]
 ·subst z
  exact BL (p:=⟨#[]⟩) (by decide +kernel) Gv
 ·have e:=uq z λp hp=>(hq p hp).a
  rcases h with h|h|⟨p,hp,hx⟩
  ·exact absurd h z
  ·exact BK (by rw[e];exact h)
  ·exact BL (by rw[e];exact hp) hx
theorem Jo{sg:Str}{R:List (List aS)}{fo fm:aS}{x:Str}(T:Tab sg R fo fm)(h1:¬ig x)(h2:Lb x)(h3:x.cps.size<=12)(h4:10∉x.cps.toList):KJ sg ((gy sg R fo fm).set 0 x) 0:=by
 have hm:=T.sm
 have L:=T.HS
 refine⟨KG L.ne h1,⟨by unfold gy;simp,λr hr=>?_,λr hr=>?_,by rw[List.length_set];exact L.len,h2,h3⟩,by rw[List.length_set,T.length];omega,λ_=>by rw[List.length_set,T.length];omega⟩
 ·rcases List.mem_or_eq_of_mem_set hr with hr|rfl
  ·exact L.free r hr
  ·exact h4
 ·rcases List.mem_or_eq_of_mem_set hr with hr|rfl
  ·exact L.row r hr
  ·omega
theorem BY{rows:List Str}{x:Str}(L:DI rows)(h1:rows.length<=19)(h2:10∉x.cps.toList)(h3:x.cps.size<=2000):DI (rows++[x]):=by
 have hh:=xE (x:=x) L.ne
 refine⟨by simp,λr hr=>?_,λr hr=>?_,by rw[List.length_append];show _+1<=20;omega,by rw[hh];exact L.asc,by rw[hh];exact L.small⟩
 ·rcases List.mem_append.mp hr with hr|hr
  ·exact L.free r hr
  ·rw[List.mem_singleton.mp hr];exact h2
 ·rcases List.mem_append.mp hr with hr|hr
  ·exact L.row r hr
  ·rw[List.mem_singleton.mp hr];exact h3
theorem Ed{sg:Str}{R:List (List aS)}{fo fm:aS}{x:Str}(T:Tab sg R fo fm)(h2:10∉x.cps.toList)(h3:x.cps.size<=2000):KJ sg (gy sg R fo fm++[x]) (sg.cps.size+2):=by
 have hm:=T.sm
 have hl:=T.length
 refine⟨FP T.HS.ne T.good,BY T.HS (by omega) h2 h3,by rw[List.length_append];show _+1<=15;omega,λz=>?_⟩
 rw[List.length_append]at z
 have z':(gy sg R fo fm).length+1=sg.cps.size+2:=z
 omega
theorem Gq{sg:Str}{R:List (List aS)}{fo fm:aS}{k:Nat}(T:Tab sg R fo fm)(h1:1<=k)(h2:k<=sg.cps.size+1):KJ sg ((gy sg R fo fm).eraseIdx k) (if sg.cps.size=2\/k=sg.cps.size+1 then sg.cps.size+1 else sg.cps.size):=by
 have hm:=T.sm
 have L:=T.HS
 have hl:((gy sg R fo fm).eraseIdx k).length=sg.cps.size+1:=by rw[List.length_eraseIdx,if_pos (by have:=T.length;omega),T.length];rfl
 have hh:=vY (rows:=gy sg R fo fm) h1
 refine⟨Hq T.good h1 h2,⟨λz=>by rw[z]at hl;simp at hl,λr hr=>L.free r (List.mem_of_mem_eraseIdx hr),λr hr=>L.row r (List.mem_of_mem_eraseIdx hr),by omega,by rw[hh];exact L.asc,by rw[hh];exact L.small⟩,by omega,λz=>by omega⟩
def tE(K:PySem.W.Frag):Sp:=λvs H Q _=>∃(s t:Addr) (ns:List Int) (k:Int) (l:Addr) (sg:Str) (R:List (List aS)) (fo fm:aS),vs=[.ref s,.ref t,.ref l]/\rD K H s t ns k/\k<=100000/\l≠t/\H l=some (.lst ((gy sg R fo fm).map V.str))/\Tab sg R fo fm ∧
 ∀(q l':Addr) (rows:List Str) (i:Nat) (H':Hp),KJ sg rows i->ai (L2.upd H t (.lst [.int (k+1)])) H'->H' q=some (.tup [.ref l',.int i])->H' l'=some (.lst (rows.map V.str))->Q (.ref q) H'
end GP
namespace GP
open PySem L2 iX PySem.NumText
structure Oj(x:Str):Prop where
 no:¬ig x
 asc:Lb x
 sm:x.cps.size<=12
 free:10∉x.cps.toList
theorem Kh:Oj ⟨#[]⟩:=⟨λh=>absurd h.1 (by decide),⟨by decide,λc hc=>by cases hc⟩,by decide,λh=>by cases h⟩
theorem Fl{sg:Str}{c:Nat}(hs:ig sg)(hn:sg.cps.size<=11)(hc:c<128)(Sh:c≠10)(hb:c∈sg.cps.toList\/fR c=false):Oj (sg++(⟨#[c]⟩:Str)):=by
 have e:(sg++(⟨#[c]⟩:Str)).cps.toList=sg.cps.toList++[c]:=by rw[fD]
 have z:(sg++(⟨#[c]⟩:Str)).cps.size=sg.cps.size+1:=by rw[dX];rfl
 refine⟨λh=>?_,⟨by omega,λd hd=>?_⟩,by omega,λh=>?_⟩
 ·rcases hb with hb|hb
  ·have nd:=h.2.2.2
   rw[e]at nd
   exact(List.nodup_append.mp nd).2.2 c hb c (List.mem_singleton.mpr rfl) rfl
  ·have:=h.2.2.1 c (by rw[e];simp)
   rw[hb]at this
   cases this
 ·rw[e]at hd
  rcases List.mem_append.mp hd with hd|hd
  ·exact hs.asc.2 d hd
  ·rw[List.mem_singleton.mp hd];exact hc
 ·rw[e]at h
  rcases List.mem_append.mp h with h|h
  ·have:=pS (hs.2.2.1 10 h);omega
  ·exact Sh (List.mem_singleton.mp h).symm
theorem Kg{sg:Str}{c:Nat}(hs:ig sg)(hn:sg.cps.size<=11)(hc:c<128)(Sh:c≠10)(hb:fR c=false):Oj ((⟨#[c]⟩:Str)++sg):=by
 have e:((⟨#[c]⟩:Str)++sg).cps.toList=c::sg.cps.toList:=by rw[fD];rfl
 have z:((⟨#[c]⟩:Str)++sg).cps.size=1+sg.cps.size:=by rw[dX];rfl
 refine⟨λh=>?_,⟨by omega,λd hd=>?_⟩,by omega,λh=>?_⟩
 ·have:=h.2.2.1 c (by rw[e];exact List.mem_cons_self)
  rw[hb]at this
  cases this
 ·rw[e]at hd
  rcases List.mem_cons.mp hd with rfl|hd
  ·exact hc
  ·exact hs.asc.2 d hd
 ·rw[e]at h
  rcases List.mem_cons.mp h with h|h
  ·exact Sh h.symm
  ·have:=pS (hs.2.2.1 10 h);omega
theorem Hr{c:Str}(h:Hs c=true):oJ c=none/\c.cps.size<=122/\32∉c.cps.toList/\10∉c.cps.toList:=by
 unfold Hs at h
 rw[Bool.and_eq_true,Bool.and_eq_true,decide_eq_true_eq,List.all_eq_true]at h
 refine⟨Option.isNone_iff_eq_none.mp h.1.1,h.2,λz=>?_,λz=>?_⟩
 ·have:=h.1.2 32 z
  simp at this
 ·have:=h.1.2 10 z
  simp at this
theorem some_at{j:Nat}(h:j<28):∃c,tG[j]? =some c/\Hs c=true:=by
 have hl:j<tG.length:=h
 exact⟨tG[j],List.getElem?_eq_getElem hl,List.all_eq_true.mp CK _ (List.getElem_mem hl)⟩
theorem LJ:Str.ofString "1" ++rT (Str.ofString "0") 60=Str.ofString "1000000000000000000000000000000000000000000000000000000000000" :=by decide +kernel
theorem LI:Str.ofString "1/1" ++rT (Str.ofString "0") 60=Str.ofString "1/1000000000000000000000000000000000000000000000000000000000000" :=by decide +kernel
theorem wg{α β:Type}(f:α->β):∀(l:List α) (i:Nat),(l.map f).eraseIdx i=(l.eraseIdx i).map f
 |[],_=>rfl
 |a::l,0=>rfl
 |a::l,i+1=>by
  show f a::(l.map f).eraseIdx i=f a::(l.eraseIdx i).map f
  rw[wg f l i]
theorem nQ{α β:Type}(f:α->β)(l:List α)(i:Nat)(x:α):(l.map f).set i (f x)=(l.set i x).map f:=(List.map_set).symm
end GP
namespace GP
open PySem L2 iX PySem.NumText
def BB(K:PySem.W.Frag):Sp:=λvs H Q _=>∃(s t:Addr) (ns:List Int) (k:Int),vs=[.ref s,.ref t]/\rD K H s t ns k/\k<=50000/\∀(k':Int) (H':Hp),ai (Wo t H) (Wo t H')->H' t=some (.lst [.int k'])->k<=k'->k'<=k+400->Q (.bl true) H'
theorem FL{J:It}{g:TG}{te:TE}{σ':L2.St}{H1:Hp}{D:Hp->Prop}{l:Addr}{α:Type}(F:Hp->Addr->α->Prop)(as:List α)(hl:H1 l=none)(hn:as.length<sizeLine)
  (sm:∀H H' q a,ai H H'->F H q a->F H' q a) (off:∀H q a ys o,H l=some (.lst ys)->F H q a->F (L2.upd H l o) q a)
  (go:∀i H,ai H1 H->i<as.length->J.go i H) (st:∀H,ai H1 H->J.stop as.length H)
  (el:∀i x a H H3 (R:VK),ai H1 H->as[i]? =some a->J.Bl i H x H3->(∀q H5,ai H H5->F H5 q a->R (.ref q) H5)->g x σ' H3 λBf H4=>Kp σ' Bf/\te Bf H4 R)
  (fin:∀H' (qs:List Addr),ai H1 H'->H' l=some (.lst (qs.map V.ref))->Paired (F H') qs as->D H') :
  ∃W:Nat->Nat->List V->Hp->Prop,(∃m,W 0 m [] (L2.upd H1 l (.lst [])))/\∀i m ys H2,W i m ys H2->(J.stop i H2/\D H2) ∨
   (J.go i H2/\∀x H3,J.Bl i H2 x H3->g x σ' H3 λBf H4=>Kp σ' Bf/\te Bf H4 λy H5=>H5 l=some (.lst ys)/\ys.length<sizeLine/\∃m',m'<m/\W (i+1) m' (ys++[y]) (L2.upd H5 l (.lst (ys++[y])))):=by
 refine⟨λi m ys H2=>m=as.length-i/\i<=as.length/\ai H1 H2/\H2 l=some (.lst ys)/\∃qs:List Addr,ys=qs.map V.ref/\qs.length=i/\Paired (F H2) qs (as.take i),⟨as.length,rfl,Nat.zero_le _,ai.upd hl,af,[],rfl,rfl,.nil⟩,?_⟩
 rintro i m ys H2 ⟨rfl,hi,s2,h2,qs,rfl,hq,hP⟩
 by_cases hlt:i<as.length
 ·refine .inr ⟨go i H2 s2 hlt,λx H3 y=>el i x as[i] H2 H3 _ s2 (List.getElem?_eq_getElem hlt) y λq H5 s5 hF=>?_⟩
  have h5:=s5 _ _ h2
  refine⟨h5,by rw[List.length_map];omega,as.length-(i+1),by omega,rfl,hlt,ai.at (s2.trans s5) hl,af,qs++[q],by rw[List.map_append];rfl,by rw[List.length_append,hq];rfl,?_⟩
  rw[take_snoc (List.getElem?_eq_getElem hlt)]
  exact GP.Paired.snoc (Paired.iW hP λa b z=>off _ _ _ _ _ h5 (sm _ _ _ _ s5 z)) (off _ _ _ _ _ h5 hF)
 ·have e:i=as.length:=by omega
  subst e
  rw[List.take_length]at hP
  exact .inl ⟨st H2 s2,fin H2 qs s2 h2 hP⟩
theorem Paired.mapR{α β γ:Type}{F:α->γ->Prop}{g:β->γ}:∀{l₁:List α} {l₂:List β},Paired (λa b=>F a (g b)) l₁ l₂->Paired F l₁ (l₂.map g)
 |_,_,.nil=>.nil
 |_,_,.cons r t=>.cons r (Paired.mapR t)
theorem JV(a b:Str):(a++Str.ofString " ")++b=jb [a,b]:=tw (by
 rw[fD,fD,dZ]
 show _=a.cps.toList++32::b.cps.toList
 rw[List.append_assoc]
 rfl)
theorem Df{R:List (List aS)}(h:∀r∈R,∀f∈r,cY f):gU (gU R)=gU R:=E2 λr hr f hf=>by have:=(h r hr f hf).pos;omega
theorem Lg{sg:Str}{R:List (List aS)}{fo fm:aS}(h:∀r∈R,∀f∈r,cY f)(ho:cY fo)(hm:cY fm):gy sg (gU R) (aZ fo) (aZ fm)=gy sg R fo fm:=by
 unfold gy gU
 rw[BG ho,BG hm,List.map_map]
 congr 2
 exact List.map_congr_left λr hr=>by
  show jb ((r.map aZ).map sW)=jb (r.map sW)
  rw[EV (h r hr)]
theorem eB.off'{K:PySem.W.Frag}{H:Hp}{l q:Addr}{f:aS}{ys:List V}{o:HO}(hl:H l=some (.lst ys))(h:eB K H q f):eB K (L2.upd H l o) q f:=cL.off hl h
theorem nN.off{K:PySem.W.Frag}{H:Hp}{d l:Addr}{sg:Str}{rows:List (List aS)}{fo fm:aS}{ys:List V}{u:HO}(hl:H l=some (.lst ys))(h:nN K H d sg rows fo fm):nN K (L2.upd H l u) d sg rows fo fm:=by
 obtain⟨P,o,m,a,b,c,e⟩:=h
 exact⟨P,o,m,cL.off hl a,b.off hl,c.off' hl,e.off' hl⟩
end GP
set_option Elab.async false
set_option linter.all false
set_option maxRecDepth 100000
set_option maxHeartbeats 4000000
seal PySem.wpAny
namespace Om
open PySem L2 iX GP
def top(i:Nat):Stmt:=PySem.Challenge.pw_gapweave_k66_prices_written.main.body.getD i (.Pass ⟨0,0,0,0⟩)
theorem mE{N P:List Str}{sc:Scope}(a:sc.kind=.function:=by rfl)(b:sc.isCoroutine=false:=by rfl)(c:sc.isGenerator=false:=by rfl)(d:N.Nodup:=by decide +kernel)(e:N.take P.length=P:=by rfl)(f:∀x∈P,sc.names.lookup x=some .local\/sc.names.lookup x=some .cell:=by decide +kernel)(g:∀y∈sc.names,y.2≠.free:=by decide +kernel):aP N P sc:=⟨a,b,c,d,e,f,g⟩
abbrev bF:Stmt:=inClass (top 6) 0
theorem j6:aP ["self","line"] ["self","line"] (aC bF):=mE
abbrev dY:Stmt:=top 8
theorem fu:aP ["one","other","rest"] ["one","other"] (aC dY):=mE
abbrev mW:Stmt:=top 9
theorem vL:aP ["fraction","divisor"] ["fraction"] (aC mW):=mE
abbrev nS:Stmt:=top 14
theorem tK:aP ["sign","number"] ["sign"] (aC nS):=mE
abbrev jE:Stmt:=top 15
theorem wX:aP ["text"] ["text"] (aC jE):=mE
abbrev gb:Stmt:=top 16
theorem mV:aP ["signs"] ["signs"] (aC gb):=mE
abbrev iE:Stmt:=top 17
theorem ly:aP ["signs","pairs","row"] ["signs","pairs"] (aC iE):=mE
abbrev gA:Stmt:=top 18
theorem rS:aP ["price"] ["price"] (aC gA):=mE
abbrev iD:Stmt:=top 19
theorem qG:aP ["row"] ["row"] (aC iD):=mE
abbrev jY:Stmt:=top 20
theorem kU:aP ["pairs","opening","more","unders","row"] ["pairs","opening","more"] (aC jY):=mE
abbrev i8:Stmt:=top 21
theorem eE:aP ["unders","factors","unit","under","factor"] ["unders"] (aC i8):=mE
abbrev jU:Stmt:=top 22
theorem jv:aP ["factors","product","factor"] ["factors"] (aC jU):=mE
abbrev lz:Stmt:=top 23
theorem Ao:aP ["price","unit"] ["price","unit"] (aC lz):=mE
abbrev gQ:Stmt:=top 24
theorem dj:aP ["signs","pairs","unit","costs","one","row","other","price"] ["signs","pairs","unit"] (aC gQ):=mE
abbrev bS:Stmt:=inClass (top 25) 0
theorem o5:aP ["self","signs","pairs","opening","more"] ["self","signs","pairs","opening","more"] (aC bS):=mE
abbrev gO:Stmt:=top 33
theorem i0:aP ["number","parts","limit"] ["number"] (aC gO):=mE
abbrev cW:Stmt:=top 34
theorem fq:aP ["fraction","told","ahead","behind"] ["fraction"] (aC cW):=mE
abbrev fz:Stmt:=top 35
theorem mT:aP ["fractions"] ["fractions"] (aC fz):=mE
abbrev gM:Stmt:=top 36
theorem kC:aP ["prices","rows"] ["prices"] (aC gM):=mE
abbrev jX:Stmt:=top 37
theorem uW:aP ["text"] ["text"] (aC jX):=mE
abbrev iC:Stmt:=top 38
theorem dN:aP ["text","parts","below","over","under","fraction"] ["text"] (aC iC):=mE
abbrev jT:Stmt:=top 39
theorem uV:aP ["row"] ["row"] (aC jT):=mE
abbrev gP:Stmt:=top 40
theorem kD:aP ["rows","line","many","fractions"] ["rows","line","many"] (aC gP):=mE
abbrev jw:Stmt:=top 41
theorem gz:aP ["text","rows","signs","pairs","ends"] ["text"] (aC jw):=mE
abbrev gB:Stmt:=top 43
theorem kF:aP ["_law_script","_law_at","_law_cell","_law_m"] ["_law_script","_law_at"] (aC gB):=mE
abbrev gC:Stmt:=top 44
theorem fZ:aP ["_law_script","_law_at","_law_m","_law_under","_law_cell"] ["_law_script","_law_at"] (aC gC):=mE
abbrev kH:Stmt:=top 45
theorem c6:aP ["_law_script","_law_at","_law_many","_law_some","_law_m","_law_signs_here","_law_k","_law_made","_law_sign"] ["_law_script","_law_at","_law_many"] (aC kH):=mE
abbrev kI:Stmt:=top 46
theorem i7:aP ["_law_script","_law_at","_law_many","_law_both","_law_pairs_here","_law_j","_law_k"] ["_law_script","_law_at","_law_many"] (aC kI):=mE
abbrev j9:Stmt:=top 47
theorem rJ:aP ["_law_one_here","_law_other"] ["_law_one_here","_law_other"] (aC j9):=mE
abbrev jj:Stmt:=top 48
theorem rH:aP ["_law_found","_law_due"] ["_law_found","_law_due"] (aC jj):=mE
abbrev fB:Stmt:=top 49
theorem eO:aP ["_law_fraction_here","_law_part_here","_law_over","_law_under"] ["_law_fraction_here"] (aC fB):=mE
abbrev jW:Stmt:=top 50
theorem oG:aP ["_law_fraction_here","_law_part_here"] ["_law_fraction_here"] (aC jW):=mE
abbrev jV:Stmt:=top 51
theorem cg:aP ["_law_script","_law_at","_law_rows","_law_m","_law_made","_law_many","_law_k","_law_pieces","_law_signs_here","_law_some","_law_spot"] ["_law_script","_law_at","_law_rows"] (aC jV):=mE
abbrev j7:Stmt:=top 52
theorem kE:aP ["_law_text","_law_told_here","e"] ["_law_text"] (aC j7):=mE
abbrev j8:Stmt:=top 53
theorem mU:aP ["_law_text","_law_due","_law_told_here","_law_prices"] ["_law_text","_law_due"] (aC j8):=mE
abbrev kG:Stmt:=top 54
theorem fO:aP ["_law_m","_law_rows","_law_due","_law_great","_law_text","_law_price","_law_pieces","_law_built","_law_line"] ["_law_m","_law_rows","_law_due"] (aC kG):=mE
abbrev nR:Stmt:=top 55
theorem b5:aP ["_law_script","_law_at","_law_m","_law_signs_here","_law_pairs_here","_law_opening","_law_more","_law_rows","_law_price","_law_line","_law_kept","_law_due","_law_found","_law_text","_law_spoilt_here"] ["_law_script","_law_at"] (aC nR):=mE
abbrev oH:Stmt:=top 56
theorem An:aP ["_law_script","_law_at","_law_turn"] ["_law_script"] (aC oH):=mE
abbrev l6:List Str:=["_law_script","_law_at"]
abbrev l7:List Str:=["text"]
abbrev l8:List Str:=["fraction"]
abbrev l9:List Str:=["row"]
abbrev DP:List Str:=["self","line"]
abbrev E7:List Str:=["price"]
abbrev F4:List Str:=["_law_one_here","_law_other"]
abbrev F3:List Str:=["_law_script","_law_at","_law_many"]
abbrev F2:List Str:=["_law_found","_law_due"]
abbrev F1:List Str:=["_law_fraction_here"]
abbrev GW:List Str:=["sign"]
abbrev GV:List Str:=["signs"]
abbrev HU:List Str:=["self","signs","pairs","opening","more"]
abbrev JQ:List Str:=["one","other"]
abbrev JP:List Str:=["price","unit"]
abbrev JO:List Str:=["_law_text"]
abbrev JN:List Str:=["_law_text","_law_due"]
abbrev K0:List Str:=["_law_script"]
abbrev Ml:List Str:=["pairs","opening","more"]
abbrev Mj:List Str:=["signs","pairs"]
abbrev Mi:List Str:=["signs","pairs","unit"]
abbrev Mh:List Str:=["fractions"]
abbrev Mg:List Str:=["rows","line","many"]
abbrev Mf:List Str:=["_law_m","_law_rows","_law_due"]
abbrev Me:List Str:=["_law_script","_law_at","_law_rows"]
abbrev Tn:List Str:=["_law_k","_law_script","_law_at","_law_many"]
structure Pm where
 jR:Tok
 kB:Tok
 iL:Addr
 lQ:Tok
 nP:Tok
 wL:Tok
 iZ:Tok
 nO:Tok
 iY:Tok
 au:Addr
 bV:Addr
 bx:Addr
 av:Addr
 fJ:Addr
 gI:Addr
 gJ:Addr
structure Txt(K:PySem.W.Frag)(mg:Str->Option Value)(p:Pm):Prop where
 Bk:mg "abs" =none
 dG:mg "len" =none
 z_ord:mg "ord" =none
 Hv:mg "set" =none
 ku:mg "tuple" =none
 sU:mg "list" =none
 DV:mg "zip" =none
 lP:mg "range" =none
 aN:mg "isinstance" =none
 Bh:mg "int" =none
 DX:mg "bool" =none
 lq:mg "str" =none
 DW:mg "dict" =none
 Bj:mg "all" =none
 Lc:mg "min" =none
 wF:mg "ValueError" =none
 xJ:mg "FIRST_SIGN" =some (.int 32 p.jR)
 zD:mg "LAST_SIGN" =some (.int 126 p.kB)
 A3:mg "NO_SIGNS" =some (.ref p.iL)
 Ax:∀H:Hp,cL K H p.iL [.int 34,.int 37,.int 45]
 ux:mg "LINE_END" =some (.str (Str.ofString "\n") p.lQ)
 vZ:mg "BETWEEN" =some (.str (Str.ofString " ") p.nP)
 Fp:mg "LINE" =some (.str (Str.ofString "/") p.wL)
 nE:mg "BELOW_NOUGHT" =some (.str (Str.ofString "-") p.iZ)
 Dv:mg "FIGURES" =some (.str (Str.ofString "0123456789") p.nO)
 uw:mg "MOST_FIGURES" =some (.int 60 p.iY)
 qR:mg "Prices" =some (.ref p.au)
 bu:Iz K p.au
 i9:cV K p.au "signs"
 gE:cV K p.au "pairs"
 fE:cV K p.au "opening"
 iy:cV K p.au "more"
 lD:cV K p.au "factors"
 jy:cV K p.au "unit"
 t9:cV K p.au "costs"
 lV:cV K p.au "opening_units"
 oi:cV K p.au "more_units"
 Dq:PySem.W.isIn K (.ref p.au) p.au=true
 kY:mg "WeaveError" =some (.ref p.bV)
 uS:XB K p.bV
 jI:mg "NoPrices" =some (.ref p.bx)
 mO:FT K p.bx
 yx:XB K p.bx
 lF:mg "NoText" =some (.ref p.av)
 CH:KH K p.av
 AQ:mg "NoBlock" =some (.ref p.fJ)
 C7:mg "NoSign" =some (.ref p.gI)
 C8:mg "NoNote" =some (.ref p.gJ)
 vz:Na K p.av
 vA:∃f,CG K p.av f
 kX:cV K p.av "line"
 oE:XBase K p.bV
 nv:PySem.W.subIn K (.ref p.av) (.ref p.bV)=some true
 ny:PySem.W.subIn K (.ref p.bx) (.ref p.bx)=some true
 qh:PySem.W.kitOne K (.ref p.av) (.ref p.fJ)=some false
 qW:PySem.W.kitOne K (.ref p.av) (.ref p.gJ)=some false
 pD:PySem.W.kitOne K (.ref p.av) (.ref p.bx)=some false
 qV:PySem.W.kitOne K (.ref p.av) (.ref p.gI)=some false
 qU:PySem.W.kitOne K (.ref p.av) (.ref p.av)=some true
 nD:PySem.W.kitOne K (.ref p.av) (.type "ValueError")=some true
theorem xS:bootBuiltins "abs" =some (.builtin "abs"):=by decide +kernel
theorem b6:bootBuiltins "len" =some (.builtin "len"):=by decide +kernel
theorem KA:bootBuiltins "ord" =some (.builtin "ord"):=by decide +kernel
theorem FO:bootBuiltins "set" =some (.type "set"):=by decide +kernel
theorem jL:bootBuiltins "tuple" =some (.type "tuple"):=by decide +kernel
theorem qu:bootBuiltins "list" =some (.type "list"):=by decide +kernel
theorem aK:bootBuiltins "isinstance" =some (.builtin "isinstance"):=by decide +kernel
theorem xQ:bootBuiltins "int" =some (.type "int"):=by decide +kernel
theorem Cz:bootBuiltins "bool" =some (.type "bool"):=by decide +kernel
theorem jt:bootBuiltins "str" =some (.type "str"):=by decide +kernel
theorem Cy:bootBuiltins "dict" =some (.type "dict"):=by decide +kernel
theorem xR:bootBuiltins "all" =some (.builtin "all"):=by decide +kernel
theorem KC:bootBuiltins "min" =some (.builtin "min"):=by decide +kernel
theorem vn:bootBuiltins "ValueError" =some (.type "ValueError"):=by decide +kernel
section
variable{P:Program}{w:World}{K:PySem.W.Frag}{mg:Str->Option Value}{base:Heap}
theorem oh {bP:Addr} {bJ:FuncData} {p:Pm} (T:Txt K mg p) (aT:Dn K mg "greatest_divisor" dY JQ bP bJ)  :aW P w K mg base ee 1 bP bJ JQ Ej:=by
 refine aT.fn.ok fu (λvs H Q E h=>?_) (λcdv A outer s H vs Q E hr h=>?_)
 ·obtain⟨a,b,rfl,_⟩:=h
  rfl
 ·obtain⟨a,b,rfl,hb,k⟩:=h
  refine⟨_,(ak (tP PassesOwn.never (bw oK (pv 1) aj (bH _)) (ak (aE (i:=2) fu.nd rfl (Or.inl rfl) (aB cA (pv 0) (pv 1)))
   (ak (aE (i:=0) fu.nd rfl (Or.inl rfl) (pv 1))
   (aq (aE (i:=1) fu.nd rfl (Or.inl rfl) (pv 2))))))
   (aq (aR (ay (qp) rfl T.Bk xS (aa (pv 0) ah))))),?_⟩
  refine⟨λm σ H'=>H'=H/\∃(x y:Int) (r:Option V),σ=[some (.int x),some (.int y),r]/\0<=y/\Int.gcd x y=Int.gcd a b/\m=y.toNat,⟨b.toNat,rfl,a,b,none,rfl,hb,rfl,rfl⟩,?_⟩
  rintro m σ H' ⟨rfl,x,y,r,rfl,hy,hg,rfl⟩
  refine⟨_,rfl,rfl,_,rfl,?_⟩
  refine pF (λh0=>?_) (λh0=>?_)
  ·have l1:=Int.emod_nonneg x h0
   have l2:=Int.emod_lt_of_pos x (show 0<y by omega)
   refine⟨λσ' DS=>DS=H'/\∃r,σ'=[some (.int y),some (.int (x % y)),r],?_,?_⟩
   ·rintro σ' DS ⟨rfl,r,rfl⟩
    exact⟨(x % y).toNat,by omega,rfl,y,x % y,r,rfl,l1,(zB x y).trans hg,rfl⟩
   ·exact⟨_,rfl,_,rfl,_,_,rfl,rfl,(by show 0<y;omega),_,rfl,_,rfl,rfl,_,rfl⟩
  ·subst h0
   refine⟨_,rfl,_,rfl,?_⟩
   rw[Hf,hg]
   exact k
theorem CZ {jc bP:Addr} {gW bJ:FuncData} {p:Pm} (T:Txt K mg p) (fH:Dn K mg "lowest" mW l8 jc gW) (aT:Dn K mg "greatest_divisor" dY JQ bP bJ) (iO:aW P w K mg base ee 1 bP bJ JQ Ej):aW P w K mg base ee 2 jc gW l8 (Ei K):=by
 refine fH.fn.ok vL (λvs H Q E h=>?_) (λcdv A outer s H vs Q E hr h=>?_)
 ·obtain⟨p,f,rfl,_⟩:=h
  rfl
 ·obtain⟨p,⟨a,b⟩,rfl,hS,hb,hb2,k⟩:=h
  have hb0:0<b:=hb
  have g1:=jB a hb0
  have g2:=xH a hb0
  refine⟨_,(ak (aE (i:=1) vL.nd rfl (Or.inl rfl) (aD iO (hr.mono (by decide)) rfl aT.m aT.fn.kp aT.b .nil bB (aa (aV bW (pv 0) aj (λ_ _=>rfl)) (aa (aV bW (pv 0) aj (λ_ _=>rfl)) ah))))
   (aq (aR (cU (aa (aB jH (aV bW (pv 0) aj (λ_ _=>rfl)) (pv 1)) (aa (aB jH (aV bW (pv 0) aj (λ_ _=>rfl)) (pv 1)) ah)))))),?_⟩
  refine⟨_,rfl,_,_,_,_,rfl,rfl,hS,rfl,_,rfl,_,_,_,_,rfl,rfl,hS,rfl,a,b,rfl,Int.le_of_lt hb,?_⟩
  refine⟨_,rfl,_,_,_,_,rfl,rfl,hS,rfl,_,rfl,_,_,rfl,rfl,⟨g1,(Sm.le (Int.le_of_lt g1) g2 hb2).bg⟩,_,rfl,_,_,_,_,rfl,rfl,hS,rfl,_,rfl,_,_,rfl,rfl,⟨g1,(Sm.le (Int.le_of_lt g1) g2 hb2).bg⟩,?_⟩
  exact⟨by show 2<=sizeLine;decide,λq hq=>k q hq⟩
theorem rW {cJ jc:Addr} {cu gW:FuncData} {p:Pm} (T:Txt K mg p) (bq:Dn K mg "lowest_price" gA E7 cJ cu) (fH:Dn K mg "lowest" mW l8 jc gW) (uQ:aW P w K mg base ee 2 jc gW l8 (Ei K)):aW P w K mg base ee 3 cJ cu E7 (oY K):=by
 refine bq.fn.ok rS (λvs H Q E h=>?_) (λcdv A outer s H vs Q E hr h=>?_)
 ·obtain⟨p,f,rfl,_⟩:=h
  rfl
 ·obtain⟨p,f,rfl,hS,⟨h1,h2⟩,k⟩:=h
  refine⟨_,(ak (ck (bw EM (aV bW (pv 0) aj (λ_ _=>rfl)) aj (bH _)) gf aY)
   (aq (aR (aD uQ (hr.mono (by decide)) rfl fH.m fH.fn.kp fH.b .nil bB (aa (pv 0) ah))))),?_⟩
  refine⟨_,rfl,_,_,_,_,rfl,rfl,hS,rfl,_,_,rfl,rfl,_,rfl,?_⟩
  refine fQ (λz=>absurd z (by omega)) λ_=>?_
  exact⟨_,rfl,p,f,rfl,hS,by omega,h2,k⟩
theorem qN {eK cJ:Addr} {dP cu:FuncData} {p:Pm} (T:Txt K mg p) (cR:Dn K mg "lowest_prices" iD l9 eK dP) (bq:Dn K mg "lowest_price" gA E7 cJ cu) (je:aW P w K mg base ee 3 cJ cu E7 (oY K)):aW P w K mg base ee 4 eK dP l9 (rG K):=by
 refine cR.fn.ok qG (λvs H Q E h=>?_) (λcdv A outer s H vs Q E hr h=>?_)
 ·obtain⟨c,fs,rfl,_⟩:=h
  rfl
 ·obtain⟨c,fs,rfl,⟨ps,hc,hp⟩,ho,hz,k⟩:=h
  have hl:=Paired.len hp
  refine⟨_,(aq (aR (cM (jC) rfl T.ku jL (aa (gv (N:=E7) rfl (λ_=>⟨[],cC.plain (by decide +kernel) rfl (by decide +kernel) (by decide +kernel)⟩) (tT (pv 0)) (λ_ _ _ _ _ _ _=>(bD (i:=0) (show(E7:List Str).Nodup by decide +kernel) rfl (Or.inl rfl))) (λ_ _ _ _ _ _ _=>(aD je (hr.mono (by decide)) rfl bq.m bq.fn.kp bq.b .nil bB (aa (pv 0) ah)))) ah)))),?_⟩
  refine⟨_,rfl,c,_,rfl,hc,λl G5=>?_⟩
  refine⟨λi m ys H2=>m=fs.length-i/\i<=fs.length/\ai H H2/\H2 l=some (.lst ys)/\∃qs:List Addr,ys=qs.map V.ref/\qs.length=i/\Paired (λq f=>H2 q=some (.tup [.int f.1,.int f.2])) qs ((fs.map aZ).take i),⟨fs.length,rfl,Nat.zero_le _,ai.upd G5,af,[],rfl,rfl,.nil⟩,?_⟩
  rintro i m ys H2 ⟨rfl,hi,s2,hl2,qs,rfl,hq,hP⟩
  have zc:c.at K H2 (ps.map V.ref):=ai.cp s2 hc
  by_cases hlt:i<fs.length
  ·have Mw:i<ps.length:=by omega
   have e1:(ps.map V.ref)[i]? =some (.ref ps[i]):=by rw[List.getElem?_map,List.getElem?_eq_getElem Mw];rfl
   refine .inr ⟨⟨_,_,zc,e1⟩,?_⟩
   rintro x H3 ⟨rfl,hx⟩
   have ex:=hx _ zc
   rw[e1]at ex
   cases ex
   obtain⟨f,ef,hf⟩:=Paired.at hp (List.getElem?_eq_getElem Mw)
   refine⟨Kp.rep _ _,?_⟩
   refine⟨_,rfl,ps[i],f,rfl,hf.same s2,ho f (List.mem_of_getElem? ef),λq hqn=>?_⟩
   have LW:q≠l:=λz=>by rw[z,hl2]at hqn;cases hqn
   refine⟨by rw[az (Ne.symm LW)];exact hl2,?_,fs.length-(i+1),by omega,rfl,hlt,ai.at (s2.trans (ai.upd hqn)) G5,af,qs++[q],by rw[List.map_append];rfl,by rw[List.length_append,hq];rfl,?_⟩
   ·rw[List.length_map,hq]
    exact Nat.lt_of_lt_of_le hlt (Nat.le_trans hz (by decide))
   ·rw[oM ef]
    refine GP.Paired.snoc (Paired.iW hP λa b z=>?_) ?_
    ·have n1:a≠q:=bz z hqn
     have n2:a≠l:=t8 z hl2 (by intro z;cases z)
     rw[az n2,az n1]
     exact z
    ·rw[az LW]
     exact af
  ·have ei:i=fs.length:=by omega
   subst ei
   refine .inl ⟨⟨_,zc,by rw[List.length_map];omega⟩,?_⟩
   refine⟨l,_,rfl,.inl ⟨bX.of hl2,λq hqn=>?_⟩⟩
   refine k q _ (s2.trans (ai.upd hqn)) (ai.free s2 hqn) ⟨qs,cL.of af,?_⟩
   rw[List.take_of_length_le (by rw[List.length_map];exact Nat.le_refl _)]at hP
   exact Paired.iW hP λa b z=>cL.of (by rw[az (bz z hqn)];exact z)
theorem vf {ie:Addr} {gm:FuncData} {p:Pm} (T:Txt K mg p) (fh:Dn K mg "all_unders" jY Ml ie gm)  :aW P w K mg base ee 1 ie gm Ml (yI K):=by
 refine fh.fn.ok kU (λvs H Q E h=>?_) (λcdv A outer s H vs Q E hr h=>?_)
 ·obtain⟨Pp,o,m,rows,fo,fm,rfl,_⟩:=h
  rfl
 ·obtain⟨Pp,o,m,rows,fo,fm,rfl,⟨cs,hc,hp⟩,hfo,hfm,VJ,Dr,k⟩:=h
  refine⟨_,(ak (aE (i:=3) kU.nd rfl (Or.inl rfl) (fk (aa (aV bW (pv 1) aj (λ_ _=>rfl)) (aa (aV bW (pv 2) aj (λ_ _=>rfl)) ah))))
   (ak (jM PassesOwn.never rfl (tT (pv 0)) (bD (i:=4) kU.nd rfl (Or.inl rfl)) (aq (gR (gD PySem.F.plainAttrs_list PySem.F.slot_list_extend PySem.F.type_list_extend vP (pv 3) (aa (gv (N:=E7) rfl (λ_=>⟨[],cC.plain (by decide +kernel) rfl (by decide +kernel) (by decide +kernel)⟩) (tT (pv 4)) (λ_ _ _ _ _ _ _=>(bD (i:=0) (show(E7:List Str).Nodup by decide +kernel) rfl (Or.inl rfl))) (λ_ _ _ _ _ _ _=>(aV (GZ (K':=K) rfl) (pv 0) aj (λ_ _=>rfl)))) ah)))))
   (aq (aR (pv 3))))),?_⟩
  refine⟨_,rfl,_,_,_,_,rfl,rfl,hfo,rfl,_,rfl,_,_,_,_,rfl,rfl,hfm,rfl,(by show 2<=sizeLine;decide),λl hl=>?_⟩
  have So:∀i,((rows.take i).flatten.map (·.2)).length<=12*12:=λi=>by
   have:∀(q:List (List aS)),(∀r∈q,r.length<=12)->q.flatten.length<=12*q.length:=λq=>by
    induction q with
    |nil=>intro _;simp
    |cons r q ih =>
     intro h
     have a:=h r List.mem_cons_self
     have b:=ih λr' hr=>h r' (List.mem_cons_of_mem _ hr)
     rw[List.flatten_cons,List.length_append,List.length_cons]
     omega
   have a:=this (rows.take i) λr hr=>Dr r (List.mem_of_mem_take hr)
   have b:(rows.take i).length<=12:=by rw[List.length_take];omega
   rw[List.length_map]
   omega
  refine⟨_,rfl,.tup Pp,_,rfl,ai.cp (ai.upd hl) (c:=.tup Pp) hc,Ft (K:=K) (c:=.tup Pp) (xs:=cs.map Cp.val) (λi σ H2=>∃v4,σ=[some (.ref Pp),some (.ref o),some (.ref m),some (.ref l),v4]/\ai H H2/\H2 l=some (.lst ((fo.2::fm.2::(rows.take i).flatten.map (·.2)).map V.int)))
   ⟨_,rfl,ai.upd hl,af⟩ (λi σ H2 _ ⟨_,_,s2,_⟩=>ai.cp s2 hc) ?_ ?_⟩
  ·rintro i x σ H2 hx ⟨v4,rfl,s2,hl2⟩
   obtain⟨c,ec,rfl⟩:=pC hx
   obtain⟨row,er,⟨ps,hc2,hp2⟩⟩:=Paired.at hp ec
   have MJ:=ai.cp s2 hc2
   refine⟨_,rfl,.inl ⟨rfl,_,bX.of hl2⟩,?_⟩
   refine⟨_,rfl,c,_,rfl,MJ,λlx hlx=>?_⟩
   refine⟨λj m' ys H3=>m'=row.length-j/\j<=row.length/\ai H2 H3/\H3 lx=some (.lst ys)/\ys=((row.take j).map (·.2)).map V.int,⟨row.length,rfl,Nat.zero_le _,ai.upd hlx,af,rfl⟩,?_⟩
   rintro j m' ys H3 ⟨rfl,hj,s3,Kc,rfl⟩
   have zr:=ai.cp s3 MJ
   by_cases Cd:j<row.length
   ·have Ig:j<ps.length:=by rw[Paired.len hp2];exact Cd
    have e1:(ps.map V.ref)[j]? =some (.ref ps[j]):=by rw[List.getElem?_map,List.getElem?_eq_getElem Ig];rfl
    refine .inr ⟨⟨_,_,zr,e1⟩,?_⟩
    rintro y H4 ⟨rfl,Vs⟩
    have ey:=Vs _ zr
    rw[e1]at ey
    cases ey
    refine⟨Kp.rep _ _,?_⟩
    obtain⟨f,ef,hf⟩:=Paired.at hp2 (List.getElem?_eq_getElem Ig)
    have hf':=hf.same (s2.trans s3)
    refine⟨_,rfl,_,_,_,_,rfl,rfl,hf',rfl,?_⟩
    refine⟨Kc,?_,row.length-(j+1),by omega,rfl,Cd,ai.at s3 hlx,af,?_⟩
    ·rw[List.length_map,List.length_map,List.length_take]
     have:=Dr row (List.mem_of_getElem? er)
     exact Nat.lt_of_lt_of_le (show min j row.length<100 by omega) (by decide)
    ·rw[take_snoc ef,List.map_append,List.map_append]
     rfl
   ·have ej:j=row.length:=by omega
    subst ej
    rw[List.take_of_length_le (Nat.le_refl _)]at Kc
    refine .inl ⟨⟨_,zr,by rw[List.length_map,Paired.len hp2];exact Nat.le_refl _⟩,?_⟩
    have hl3:=s3 _ _ hl2
    refine⟨l,lx,_,_,rfl,rfl,hl3,Kc,?_,?_⟩
    ·have a:=So i
     have a2:=Dr row (List.mem_of_getElem? er)
     have a3:((fo.2::fm.2::(rows.take i).flatten.map (·.2)).map V.int).length+((row.map (·.2)).map V.int).length<=200:=by
      rw[List.length_map,List.length_cons,List.length_cons,List.length_map,List.length_map,List.length_map]
      rw[List.length_map]at a
      omega
     exact Nat.le_trans a3 (by decide)
    refine⟨_,rfl,ai.at (s2.trans s3) hl,?_⟩
    rw[af,take_snoc er,List.flatten_append,List.map_append]
    simp
  ·rintro σ H2 ⟨v4,rfl,s2,hl2⟩
   refine⟨_,rfl,?_⟩
   rw[List.length_map,Paired.len hp,List.take_of_length_le (Nat.le_refl _)]at hl2
   exact k l H2 s2 hl hl2
theorem rV {fG bP:Addr} {eF bJ:FuncData} {p:Pm} (T:Txt K mg p) (dh:Dn K mg "unit_factors" i8 ["unders"] fG eF) (aT:Dn K mg "greatest_divisor" dY JQ bP bJ) (iO:aW P w K mg base ee 1 bP bJ JQ Ej):aW P w K mg base ee 2 fG eF ["unders"] (vK K):=by
 refine dh.fn.ok eE (λvs H Q E h=>?_) (λcdv A outer s H vs Q E hr h=>?_)
 ·obtain⟨l,ns,rfl,_⟩:=h
  rfl
 ·obtain⟨l,ns,rfl,hl,hn,hs,hB,k⟩:=h
  refine⟨_,(ak (aE (i:=1) eE.nd rfl (Or.inl rfl) (fk ah))
   (ak (aE (i:=2) eE.nd rfl (Or.inl rfl) aj)
   (ak (jM PassesOwn.never rfl (kJ (pv 0)) (bD (i:=3) eE.nd rfl (Or.inl rfl)) (ak (aE (i:=4) eE.nd rfl (Or.inl rfl) (aB jH (pv 3) (aD iO (hr.mono (by decide)) rfl aT.m aT.fn.kp aT.b .nil bB (aa (pv 2) (aa (pv 3) ah)))))
   (aq (ck (bw tV (pv 4) aj (bH _)) (ak (gR (gD PySem.F.plainAttrs_list PySem.F.slot_list_append PySem.F.type_list_append jZ (pv 1) (aa (pv 4) ah)))
   (aq (aE (i:=2) eE.nd rfl (Or.inl rfl) (aB xq (pv 2) (pv 4))))) aY))))
   (aq (aR (pv 1)))))),?_⟩
  refine⟨by show 0<=sizeLine;decide,λq hq=>?_⟩
  refine⟨_,rfl,l,rfl,⟨_,ai.seq (ai.upd hq) hl⟩,uz (K:=K) (a:=l) (xs:=ns.map V.int) (λi σ H2=>∃v3 v4,σ=[some (.ref l),some (.ref q),some (.int (lH (ns.take i)).2),v3,v4]/\ai H H2/\H2 q=some (.lst ((lH (ns.take i)).1.map V.int)))
   ⟨_,_,rfl,ai.upd hq,af⟩ (λi σ H2 _ ⟨_,_,_,s2,_⟩=>ai.seq s2 hl) ?_ ?_⟩
  ·rintro i x σ H2 hx ⟨v3,v4,rfl,s2,hq2⟩
   obtain⟨b,eb,rfl⟩:=pC hx
   have hi:i<ns.length:=(List.getElem?_eq_some_iff.mp eb).1
   have hb:=hs b (List.mem_of_getElem? eb)
   have F:=qX hs i (Nat.le_of_lt hi)
   have es:lH (ns.take (i+1))=nX (lH (ns.take i)) b:=by rw[take_snoc eb,uF]
   have fl:=F.len
   rw[List.length_take]at fl
   rw[es]
   unfold nX
   generalize hp:lH (ns.take i)=pr at *
   obtain⟨fs,u⟩:=pr
   obtain⟨b1,b2⟩:=hb
   have g1:=jB u b1
   have g2:=xH u b1
   obtain⟨d1,d2⟩:=Co (u:=u) ⟨b1,b2⟩
   refine⟨_,rfl,_,rfl,_,rfl,u,b,rfl,Int.le_of_lt b1,_,_,rfl,rfl,⟨g1,(Sm.le (Int.le_of_lt g1) g2 b2).bg⟩,_,rfl,_,_,rfl,rfl,_,rfl,?_⟩
   refine fQ (λh1=>?_) (λh1=>?_)
   ·rw[if_pos h1]
    refine⟨_,rfl,.inl ⟨rfl,_,bX.of hq2⟩,_,rfl,q,_,_,rfl,rfl,hq2,?_,?_⟩
    ·rw[List.length_map]
     exact Nat.lt_of_le_of_lt (show fs.length<=1000 by dsimp only at fl;omega) (by decide)
    refine⟨_,rfl,_,rfl,_,_,rfl,rfl,⟨(show u=_ from F.unit)▸hB i,(Sm.le (Int.le_of_lt d1) d2 b2).bg⟩,?_⟩
    exact⟨_,_,rfl,ai.at s2 hq,by rw[af,List.map_append];rfl⟩
   ·rw[if_neg h1]
    exact⟨_,_,rfl,s2,hq2⟩
  ·rintro σ H2 ⟨v3,v4,rfl,s2,hq2⟩
   refine⟨_,rfl,?_⟩
   rw[List.length_map,List.take_of_length_le (Nat.le_refl _)]at hq2
   exact k q H2 s2 hq hq2
theorem uZ {g7:Addr} {gh:FuncData} {p:Pm} (T:Txt K mg p) (eZ:Dn K mg "product_of" jU ["factors"] g7 gh)  :aW P w K mg base ee 1 g7 gh ["factors"] (Eg K):=by
 refine eZ.fn.ok jv (λvs H Q E h=>?_) (λcdv A outer s H vs Q E hr h=>?_)
 ·obtain⟨l,fs,rfl,_⟩:=h
  rfl
 ·obtain⟨l,fs,rfl,hl,hs,hB,k⟩:=h
  refine⟨_,(ak (aE (i:=1) jv.nd rfl (Or.inl rfl) aj)
   (ak (jM PassesOwn.never rfl (kJ (pv 0)) (bD (i:=2) jv.nd rfl (Or.inl rfl)) (aq (aE (i:=1) jv.nd rfl (Or.inl rfl) (aB xq (pv 1) (pv 2)))))
   (aq (aR (pv 1))))),?_⟩
  refine⟨_,rfl,l,rfl,⟨_,hl⟩,uz (K:=K) (a:=l) (xs:=fs.map V.int) (λi σ H2=>H2=H/\∃v2,σ=[some (.ref l),some (.int (jG (fs.take i))),v2])
   ⟨rfl,_,rfl⟩ (λi σ H2 _ ⟨e,_⟩=>by subst e;exact hl) ?_ ?_⟩
  ·rintro i x σ H2 hx ⟨rfl,v2,rfl⟩
   obtain⟨b,eb,rfl⟩:=pC hx
   obtain⟨b1,b2⟩:=hs b (List.mem_of_getElem? eb)
   refine⟨_,rfl,_,rfl,_,_,rfl,rfl,⟨hB i,b2.bg⟩,rfl,some (.int b),?_⟩
   rw[take_snoc eb,tS]
   rfl
  ·rintro σ H2 ⟨rfl,v2,rfl⟩
   refine⟨_,rfl,?_⟩
   rw[List.length_map,List.take_of_length_le (Nat.le_refl _)]
   exact k
theorem AG {ic:Addr} {fS:FuncData} {p:Pm} (T:Txt K mg p) (cP:Dn K mg "by_unit" lz JP ic fS)  :aW P w K mg base ee 1 ic fS JP (tF K):=by
 refine cP.fn.ok Ao (λvs H Q E h=>?_) (λcdv A outer s H vs Q E hr h=>?_)
 ·obtain⟨p,f,u,rfl,_⟩:=h
  rfl
 ·obtain⟨p,f,u,rfl,hS,⟨h1,h2⟩,b1,b2,k⟩:=h
  refine⟨_,(aq (aR (aB xq (aV bW (pv 0) aj (λ_ _=>rfl)) (aB jH (pv 1) (aV bW (pv 0) aj (λ_ _=>rfl)))))),?_⟩
  exact⟨_,rfl,_,_,_,_,rfl,rfl,hS,rfl,_,rfl,_,rfl,_,_,_,_,rfl,rfl,hS,rfl,_,_,rfl,rfl,⟨by omega,h2.bg⟩,_,_,rfl,rfl,⟨b1,b2⟩,k⟩
end
section
variable{P:Program}{w:World}{K:PySem.W.Frag}{mg:Str->Option Value}{base:Heap}
theorem AF {j4:Addr} {jr:FuncData} {p:Pm} (T:Txt K mg p) (iU:Dn K mg "is_sign" nS GW j4 jr)  :aW P w K mg base ee 1 j4 jr GW yK:=by
 refine iU.fn.ok tK (λvs H Q E h=>?_) (λcdv A outer s H vs Q E hr h=>?_)
 ·obtain⟨c,rfl,_⟩:=h
  rfl
 ·obtain⟨c,rfl,k⟩:=h
  refine⟨_,(ak (aE (i:=1) tK.nd rfl (Or.inl rfl) (ay (FN) rfl T.z_ord KA (aa (pv 0) ah)))
   (aq (aR (m7 (yS BU BU (dI (v:=.int 32) rfl T.xJ ⟨_,rfl⟩) (pv 1) (dI (v:=.int 126) rfl T.zD ⟨_,rfl⟩)) (qJ (lU xm (pv 1) (dI (v:=.ref p.iL) rfl T.A3 rfl) (by with_unfolding_all rfl))))))),?_⟩
  refine⟨_,rfl,_,rfl,rfl,?_⟩
  have k':Q (.bl ((decide ((32:Int)<=(c:Int))&&decide ((c:Int)<=126))&& !NN (.int c) [.int 34,.int 37,.int 45])) H:=k
  refine⟨_,rfl,_,_,rfl,rfl,_,rfl,?_⟩
  refine fQ (λh1=>?_) (λh1=>?_)
  ·refine⟨_,_,rfl,rfl,_,rfl,?_⟩
   have G9:(32:Int)<=(c:Int):=h1
   rw[decide_eq_true G9,Bool.true_and]at k'
   refine fQ (λh2=>?_) (λh2=>?_)
   ·have h2':(c:Int)<=126:=h2
    rw[decide_eq_true h2',Bool.true_and]at k'
    exact⟨_,rfl,_,_,rfl,.inr (T.Ax _),rfl,rfl,k'⟩
   ·have h2':¬(c:Int)<=126:=h2
    rw[decide_eq_false h2',Bool.false_and]at k'
    exact k'
  ·have G9:¬(32:Int)<=(c:Int):=h1
   rw[decide_eq_false G9,Bool.false_and,Bool.false_and]at k'
   exact⟨_,rfl,jN k'⟩
theorem xx {eX j4:Addr} {dJ jr:FuncData} {p:Pm} (T:Txt K mg p) (cI:Dn K mg "are_signs" jE l7 eX dJ) (iU:Dn K mg "is_sign" nS GW j4 jr) (DM:aW P w K mg base ee 1 j4 jr GW yK):aW P w K mg base ee 2 eX dJ l7 oZ:=by
 refine cI.fn.ok wX (λvs H Q E h=>?_) (λcdv A outer s H vs Q E hr h=>?_)
 ·obtain⟨x,rfl,_⟩:=h
  rfl
 ·obtain⟨x,rfl,hx,k⟩:=h
  refine⟨_,(aq (aR (ay (kM rfl) rfl T.Bj xR (aa (gv (N:=GW) rfl (λ_=>⟨[],cC.plain (by decide +kernel) rfl (by decide +kernel) (by decide +kernel)⟩) (AB (pv 0)) (λ_ _ _ _ _ _ _=>(bD (i:=0) (show(GW:List Str).Nodup by decide +kernel) rfl (Or.inl rfl))) (λ_ _ _ _ _ _ _=>(aD DM (hr.mono (by decide)) rfl iU.m iU.fn.kp iU.b .nil bB (aa (pv 0) ah)))) ah)))),?_⟩
  refine⟨_,rfl,x,rfl,λl hl=>?_⟩
  refine⟨λi m ys H2=>m=x.cps.size-i/\i<=x.cps.size/\ai H H2/\H2 l=some (.lst ys)/\ys=((x.cps.toList.take i).map fR).map V.bl,⟨x.cps.size,rfl,Nat.zero_le _,ai.upd hl,af,rfl⟩,?_⟩
  rintro i m ys H2 ⟨rfl,hi,s2,hl2,rfl⟩
  by_cases hlt:i<x.cps.size
  ·refine .inr ⟨hlt,?_⟩
   rintro y H3 ⟨rfl,c,ec,rfl⟩
   refine⟨Kp.rep _ _,?_⟩
   refine⟨_,rfl,c,rfl,?_⟩
   refine⟨hl2,?_,x.cps.size-(i+1),by omega,rfl,hlt,ai.at s2 hl,af,?_⟩
   ·rw[List.length_map,List.length_map,List.length_take]
    exact Nat.lt_of_le_of_lt (show min i x.cps.toList.length<=1000 by omega) (by decide)
   ·rw[take_snoc (x:=c) (by rw[Array.getElem?_toList];exact ec),List.map_append,List.map_append]
    rfl
  ·have ei:i=x.cps.size:=by omega
   subst ei
   refine .inl ⟨Nat.le_refl _,?_⟩
   rw[List.take_of_length_le (by rw[Array.length_toList];exact Nat.le_refl _)]at hl2
   refine⟨l,_,rfl,bX.of hl2,?_⟩
   have e:(x.cps.toList.map fR).all id=x.cps.toList.all fR:=by rw[List.all_map];rfl
   rw[e]
   exact k H2 s2
theorem tY {bZ eX:Addr} {bQ dJ:FuncData} {p:Pm} (T:Txt K mg p) (bC:Dn K mg "check_signs" gb GV bZ bQ) (cI:Dn K mg "are_signs" jE l7 eX dJ) (nL:aW P w K mg base ee 2 eX dJ l7 oZ):aW P w K mg base ee 3 bZ bQ GV pR:=by
 refine bC.fn.ok mV (λvs H Q E h=>?_) (λcdv A outer s H vs Q E hr h=>?_)
 ·obtain⟨x,rfl,_⟩:=h
  rfl
 ·obtain⟨x,rfl,⟨h1,h2,h3,h4⟩,k⟩:=h
  refine⟨_,(ak (ck (bw iP (ay (bL) rfl T.dG b6 (aa (pv 0) ah)) aj (bH _)) gf aY)
   (ak (ck (jk (cT (aD nL (hr.mono (by decide)) rfl cI.m cI.fn.kp cI.b .nil bB (aa (pv 0) ah)))) gf aY)
   (aq (ck (bw oK (ay (oS) rfl T.dG b6 (aa (cM (wm rfl) rfl T.Hv FO (aa (pv 0) ah)) ah)) (ay (bL) rfl T.dG b6 (aa (pv 0) ah)) (bH _)) gf aY)))),?_⟩
  have hz:x.length<=sizeLine:=Nat.le_trans h2 (by decide)
  refine⟨_,rfl,_,_,rfl,⟨hz,rfl⟩,rfl,_,rfl,?_⟩
  refine jo (λz=>absurd z (by show ¬((x.cps.size:Nat):Int)=0;omega)) λ_=>?_
  refine⟨_,rfl,x,rfl,Nat.le_trans h2 (by decide),λH2 s2=>?_⟩
  refine⟨_,rfl,?_⟩
  rw[List.all_eq_true.mpr h3]
  refine jK ?_
  refine⟨_,rfl,x,rfl,Nat.lt_of_le_of_lt (Nat.succ_le_succ h2) (by decide),λp hp=>?_⟩
  refine⟨p,_,rfl,af,_,rfl,_,_,rfl,⟨hz,rfl⟩,rfl,_,rfl,?_⟩
  refine pF (λz=>absurd (by rw[vQ h4];rfl) z) λ_=>?_
  exact k _ (s2.trans (ai.upd hp))
theorem qP {eL:Addr} {dQ:FuncData} {p:Pm} (T:Txt K mg p) (cS:Dn K mg "check_lengths" iE Mj eL dQ)  :aW P w K mg base ee 1 eL dQ Mj (mR K):=by
 refine cS.fn.ok ly (λvs H Q E h=>?_) (λcdv A outer s H vs Q E hr h=>?_)
 ·obtain⟨x,c,rows,rfl,_⟩:=h
  rfl
 ·obtain⟨x,c,rows,rfl,⟨nc,cs,Th,hc,hp⟩,hx,⟨hq1,hq2⟩,k⟩:=h
  refine⟨_,(ak (ck (bw oK (ay (bL) rfl T.dG b6 (aa (pv 1) ah)) (ay (bL) rfl T.dG b6 (aa (pv 0) ah)) (bH _)) gf aY)
   (aq (jM PassesOwn.never rfl (tT (pv 1)) (bD (i:=2) ly.nd rfl (Or.inl rfl)) (aq (ck (bw oK (ay (bL) rfl T.dG b6 (aa (pv 2) ah)) (ay (bL) rfl T.dG b6 (aa (pv 0) ah)) (bH _)) gf aY))))),?_⟩
  have hz:x.length<=sizeLine:=Nat.le_trans hx (by decide)
  have hl:(cs.map Cp.val).length=x.cps.size:=by rw[List.length_map,Paired.len hp,hq1]
  refine⟨_,rfl,_,_,rfl,FJ hc nc,_,rfl,_,_,rfl,⟨hz,rfl⟩,rfl,_,rfl,?_⟩
  refine pF (λz=>absurd (by rw[hl];rfl) z) λ_=>?_
  refine⟨_,rfl,c,_,rfl,hc,Ft (K:=K) (c:=c) (xs:=cs.map Cp.val) (λi σ H2=>H2=H/\∃v,σ=[some (.str x),some c.val,v]) ⟨rfl,_,rfl⟩ (λi σ H2 _ ⟨e,_⟩=>by subst e;exact hc) ?_ ?_⟩
  ·rintro i y σ H2 hy ⟨rfl,v,rfl⟩
   obtain⟨d,ed,rfl⟩:∃d,cs[i]? =some d/\y=d.val:=by
    rw[List.getElem?_map]at hy
    cases e:cs[i]? with
    |none=>rw[e]at hy;cases hy
    |some d=>rw[e]at hy;exact⟨d,rfl,(Option.some.inj hy).symm⟩
   obtain⟨row,er,hr2⟩:=Paired.at hp ed
   refine⟨_,rfl,_,_,rfl,hr2.len (Th d (List.mem_of_getElem? ed)),_,rfl,_,_,rfl,⟨hz,rfl⟩,rfl,_,rfl,?_⟩
   refine pF (λz=>absurd (by rw[hq2 row (List.mem_of_getElem? er)];rfl) z) λ_=>?_
   exact⟨rfl,_,rfl⟩
  ·rintro σ H2 ⟨rfl,v,rfl⟩
   exact k
end
section
variable{P:Program}{w:World}{K:PySem.W.Frag}{mg:Str->Option Value}{base:Heap}
theorem p7 {dW ic:Addr} {dD fS:FuncData} {p:Pm} (T:Txt K mg p) (cH:Dn K mg "costs_by_signs" gQ Mi dW dD) (cP:Dn K mg "by_unit" lz JP ic fS) (nZ:aW P w K mg base ee 1 ic fS JP (tF K)):aW P w K mg base ee 2 dW dD Mi (BD K):=by
 refine cH.fn.ok dj (λvs H Q E h=>?_) (λcdv A outer s H vs Q E hr h=>?_)
 ·obtain⟨x,Pp,u,rows,rfl,_⟩:=h
  rfl
 ·obtain⟨x,Pp,u,rows,rfl,hM,hx,nd,⟨hq1,hq2⟩,ho,k⟩:=h
  refine⟨_,(ak (aE (i:=3) dj.nd rfl (Or.inl rfl) EK)
   (ak (jM PassesOwn.never rfl (AA rfl rfl T.DV (aa (pv 0) (aa (pv 1) ah))) (tU (n:=2) rfl (iw (bD (i:=4) dj.nd rfl (Or.inl rfl)) (iw (bD (i:=5) dj.nd rfl (Or.inl rfl)) pW))) (aq (jM PassesOwn.never rfl (AA rfl rfl T.DV (aa (pv 0) (aa (pv 5) ah))) (tU (n:=2) rfl (iw (bD (i:=6) dj.nd rfl (Or.inl rfl)) (iw (bD (i:=7) dj.nd rfl (Or.inl rfl)) pW))) (aq (GA (Ia hr) (pv 3) (cU (aa (pv 4) (aa (pv 6) ah))) (aD nZ (hr.mono (by decide)) rfl cP.m cP.fn.kp cP.b .nil bB (aa (pv 7) (aa (pv 2) ah))) rfl)))))
   (aq (aR (pv 3))))),?_⟩
  intro d hd
  obtain⟨qs,TL,hp⟩:=hM
  have hlen:qs.length=x.cps.size:=by rw[Paired.len hp,hq1]
  have hmin:min (fj x).length (qs.map V.ref).length=x.cps.size:=by rw[signs_length,List.length_map,hlen,Nat.min_self]
  refine⟨_,rfl,_,rfl,.txt x,.tup Pp,_,_,rfl,rfl,Dat.tup (Dat.of (ai.upd hd)) TL,Cm (K:=K) (c:=.txt x) (d:=.tup Pp) (xs:=fj x) (ys:=qs.map V.ref) (λi σ H2=>∃kvs v4 v5 v6 v7,σ=[some (.str x),some (.ref Pp),some (.int u),some (.ref d),v4,v5,v6,v7]/\ai H H2/\H2 d=some (.dT kvs)/\kvs.length<=i*x.cps.size/\ju kvs x rows u i 0)
   ⟨[],_,_,_,_,rfl,ai.upd hd,af,Nat.zero_le _,ju.nil x rows u⟩ (λi σ H2 _ ⟨kvs,v4,v5,v6,v7,_,s2,_⟩=>⟨rfl,Dat.tup (Dat.of s2) TL⟩) ?_ ?_⟩
  ·rintro i y z p1 σ H2 hy hz hp1 ⟨kvs,v4,v5,v6,v7,rfl,s2,hd2,hk,hc⟩
   obtain⟨a,ha,rfl⟩:=signs_get hy
   obtain⟨q,hq,rfl⟩:=pC hz
   obtain⟨row,er,zA⟩:=Paired.at hp hq
   have hi:i<x.cps.size:=by rw[←hlen];exact(List.getElem?_eq_some_iff.mp hq).1
   obtain⟨ps,hps,hpp⟩:=zA
   have hpl:ps.length=x.cps.size:=by rw[Paired.len hpp,hq2 row (List.mem_of_getElem? er)]
   have Mz:min (fj x).length (ps.map V.ref).length=x.cps.size:=by rw[signs_length,List.length_map,hpl,Nat.min_self]
   refine⟨p1,_,rfl,cL.of af,rfl,_,_,rfl,_,_,rfl,rfl,?_⟩
   have Vi:d≠p1:=bz hd2 hp1
   refine⟨_,rfl,_,rfl,.txt x,.tup q,_,_,rfl,rfl,Dat.tup (Dat.of (s2.trans (ai.upd hp1))) hps,Cm (K:=K) (c:=.txt x) (d:=.tup q) (xs:=fj x) (ys:=ps.map V.ref)
    (λj σ H3=>∃kvs v6 v7,σ=[some (.str x),some (.ref Pp),some (.int u),some (.ref d),some (.str ⟨#[a]⟩),some (.ref q),v6,v7]/\ai H H3/\H3 d=some (.dT kvs)/\kvs.length<=i*x.cps.size+j/\ju kvs x rows u i j)
    ⟨kvs,v6,v7,rfl,s2.trans (ai.upd hp1),by rw[az Vi];exact hd2,hk,hc⟩ (λj σ H3 _ ⟨kvs,v6,v7,_,s3,_⟩=>⟨rfl,Dat.tup (Dat.of s3) hps⟩) ?_ ?_⟩
   ·rintro j y z p2 σ H3 hy hz hp2 ⟨kvs,v6,v7,rfl,s3,NW,hk,hc⟩
    obtain⟨b,hb,rfl⟩:=signs_get hy
    obtain⟨pr,F5,rfl⟩:=pC hz
    obtain⟨f,ef,hf⟩:=Paired.at hpp F5
    have hj:j<x.cps.size:=by rw[←hpl];exact(List.getElem?_eq_some_iff.mp F5).1
    obtain⟨o1,o2,o3⟩:=ho row (List.mem_of_getElem? er) f (List.mem_of_getElem? ef)
    refine⟨p2,_,rfl,cL.of af,rfl,_,_,rfl,_,_,rfl,rfl,?_⟩
    have s4:=s3.trans (ai.upd (o:=.tup [.str ⟨#[b]⟩,.ref pr]) hp2)
    have T3:upd H3 p2 (.tup [.str ⟨#[b]⟩,.ref pr]) d=some (.dT kvs):=by rw[az (bz NW hp2)];exact NW
    refine⟨_,rfl,_,rfl,pr,f,u,rfl,hf.same s4,o1,o2.bg,o3.bg,?_⟩
    refine⟨_,rfl,_,rfl,_,rfl,by show 2<=sizeLine;decide,λt ht=>?_⟩
    have Kl:upd (upd H3 p2 (.tup [.str ⟨#[b]⟩,.ref pr])) t (.tup [.str ⟨#[a]⟩,.str ⟨#[b]⟩]) d=some (.dT kvs):=by rw[az (bz T3 ht)];exact T3
    have hsz:kvs.length<sizeLine:=by
     have:i*x.cps.size<=100*100:=Nat.mul_le_mul (by omega) hx
     have:kvs.length<20000:=by omega
     exact Nat.lt_of_lt_of_le this (by decide)
    refine⟨d,_,rfl,FY.t (k:=keyOf a b) Kl af hsz,?_⟩
    refine⟨putK kvs (keyOf a b) (.int (f.1*(u / f.2))),_,_,rfl,ai.at (s4.trans (ai.upd ht)) hd,af,?_,hc.put nd ha hb ⟨row,er,ef⟩⟩
    have:=nk kvs (keyOf a b) (.int (f.1*(u / f.2)))
    omega
   ·rintro σ H3 ⟨kvs,v6,v7,rfl,s3,NW,hk,hc⟩
    rw[Mz]at hk hc
    refine⟨kvs,_,_,_,_,rfl,s3,NW,?_,hc.row (Nat.le_refl _)⟩
    rw[Nat.succ_mul]
    exact hk
  ·rintro σ H2 ⟨kvs,v4,v5,v6,v7,rfl,s2,hd2,hk,hc⟩
   rw[hmin]at hc
   exact⟨_,rfl,k d H2 kvs s2 hd hd2 (hc.all (Nat.le_refl _))⟩
end
section
variable{P:Program}{w:World}{K:PySem.W.Frag}{mg:Str->Option Value}{base:Heap}
theorem pA {aL bZ eL eK cJ ie fG g7 dW ic:Addr} {bY bQ dQ dP cu gm eF gh dD fS:FuncData} {p:Pm} (T:Txt K mg p) (bU:Dm K "__init__" "Prices.__init__" bS HU aL bY) (bC:Dn K mg "check_signs" gb GV bZ bQ) (k9:aW P w K mg base ee 3 bZ bQ GV pR) (cS:Dn K mg "check_lengths" iE Mj eL dQ) (sJ:aW P w K mg base ee 1 eL dQ Mj (mR K)) (cR:Dn K mg "lowest_prices" iD l9 eK dP) (sH:aW P w K mg base ee 4 eK dP l9 (rG K)) (bq:Dn K mg "lowest_price" gA E7 cJ cu) (je:aW P w K mg base ee 3 cJ cu E7 (oY K)) (fh:Dn K mg "all_unders" jY Ml ie gm) (yk:aW P w K mg base ee 1 ie gm Ml (yI K)) (dh:Dn K mg "unit_factors" i8 ["unders"] fG eF) (uP:aW P w K mg base ee 2 fG eF ["unders"] (vK K)) (eZ:Dn K mg "product_of" jU ["factors"] g7 gh) (yh:aW P w K mg base ee 1 g7 gh ["factors"] (Eg K)) (cH:Dn K mg "costs_by_signs" gQ Mi dW dD) (rC:aW P w K mg base ee 2 dW dD Mi (BD K)) (cP:Dn K mg "by_unit" lz JP ic fS) (nZ:aW P w K mg base ee 1 ic fS JP (tF K)):aW P w K mg base ee 5 aL bY HU (Ak K p.au):=by
 refine bU.fn.ok o5 (λvs H Q E h=>?_) (λcdv A outer s H vs Q E hr h=>?_)
 ·obtain⟨x,dx,o,m,sg,c,rows,fo,fm,rfl,_⟩:=h
  rfl
 ·obtain⟨x,dx,o,m,sg,c,rows,fo,fm,rfl,hx,hS,h12,hM,NQ,hok,hfo,pY,hfm,pq,Uj,k⟩:=h
  have S:=hS
  obtain⟨q1,q2,q3,q4⟩:=S
  refine⟨_,(ak (gR (aD k9 (hr.mono (by decide)) rfl bC.m bC.fn.kp bC.b .nil bB (aa (pv 1) ah)))
   (ak (gR (aD sJ (hr.mono (by decide)) rfl cS.m cS.fn.kp cS.b .nil bB (aa (pv 1) (aa (pv 2) ah))))
   (ak (lS (pv 0) (pv 1) rfl)
   (ak (lS (pv 0) (cM (jC) rfl T.ku jL (aa (gv (N:=l9) rfl (λ_=>⟨[],cC.plain (by decide +kernel) rfl (by decide +kernel) (by decide +kernel)⟩) (tT (pv 2)) (λ_ _ _ _ _ _ _=>(bD (i:=0) (show(l9:List Str).Nodup by decide +kernel) rfl (Or.inl rfl))) (λ_ _ _ _ _ _ _=>(aD sH (hr.mono (by decide)) rfl cR.m cR.fn.kp cR.b .nil bB (aa (pv 0) ah)))) ah)) rfl)
   (ak (lS (pv 0) (aD je (hr.mono (by decide)) rfl bq.m bq.fn.kp bq.b .nil bB (aa (pv 3) ah)) rfl)
   (ak (lS (pv 0) (aD je (hr.mono (by decide)) rfl bq.m bq.fn.kp bq.b .nil bB (aa (pv 4) ah)) rfl)
   (ak (lS (pv 0) (aD uP (hr.mono (by decide)) rfl dh.m dh.fn.kp dh.b .nil bB (aa (aD yk (hr.mono (by decide)) rfl fh.m fh.fn.kp fh.b .nil bB (aa (fP (pv 0) rfl) (aa (fP (pv 0) rfl) (aa (fP (pv 0) rfl) ah)))) ah)) rfl)
   (ak (lS (pv 0) (aD yh (hr.mono (by decide)) rfl eZ.m eZ.fn.kp eZ.b .nil bB (aa (fP (pv 0) rfl) ah)) rfl)
   (ak (lS (pv 0) (aD rC (hr.mono (by decide)) rfl cH.m cH.fn.kp cH.b .nil bB (aa (fP (pv 0) rfl) (aa (fP (pv 0) rfl) (aa (fP (pv 0) rfl) ah)))) rfl)
   (ak (lS (pv 0) (aD nZ (hr.mono (by decide)) rfl cP.m cP.fn.kp cP.b .nil bB (aa (fP (pv 0) rfl) (aa (fP (pv 0) rfl) ah))) rfl)
   (aq (lS (pv 0) (aD nZ (hr.mono (by decide)) rfl cP.m cP.fn.kp cP.b .nil bB (aa (fP (pv 0) rfl) (aa (fP (pv 0) rfl) ah))) rfl)))))))))))),?_⟩
  refine⟨_,rfl,sg,rfl,hS,λH1 s1=>?_⟩
  refine⟨_,rfl,_,rfl,sg,c,rows,rfl,hM.dat (Dat.of s1),by omega,NQ,?_⟩
  have NO:H1 x=some (.ins p.au dx []):=s1 _ _ hx
  refine⟨_,rfl,_,rfl,x,_,dx,_,rfl,NO,T.bu,T.i9,by decide,?_⟩
  generalize Ug:upd H1 x (.ins p.au dx (aJ "signs" (.str sg) []))=H2
  have Tv:H2 x=some (.ins p.au dx (aJ "signs" (.str sg) [])):=by rw[←Ug];exact af
  have f2:Off x H H2:=by rw[←Ug];exact(Off.of s1).trans Off.set
  obtain⟨nc,cs,Th,hcs,hp⟩:=hM.dat (f2.dat hx)
  refine⟨_,rfl,c,_,rfl,hcs,λl G5=>?_⟩
  refine⟨λi n ys H3=>n=rows.length-i/\i<=rows.length/\ai H2 H3/\H3 l=some (.lst ys)/\∃qs:List Addr,ys=qs.map V.ref/\qs.length=i/\Paired (λq r=>gH K H3 (.tup q) r) qs ((gU rows).take i),⟨rows.length,rfl,Nat.zero_le _,ai.upd G5,af,[],rfl,rfl,.nil⟩,?_⟩
  rintro i n ys H3 ⟨rfl,hi,s3,hl3,qs,rfl,hq,hP⟩
  have zc:c.at K H3 (cs.map Cp.val):=ai.cp s3 hcs
  have hcl:=Paired.len hp
  by_cases hlt:i<rows.length
  ·have T4:i<cs.length:=by omega
   have e1:(cs.map Cp.val)[i]? =some cs[i].val:=by rw[List.getElem?_map,List.getElem?_eq_getElem T4];rfl
   refine .inr ⟨⟨_,_,zc,e1⟩,?_⟩
   rintro y H4 ⟨rfl,hy⟩
   have ey:=hy _ zc
   rw[e1]at ey
   cases ey
   obtain⟨r,er,hr2⟩:=Paired.at hp (List.getElem?_eq_getElem T4)
   have hrm:=List.mem_of_getElem? er
   refine⟨Kp.rep _ _,?_⟩
   refine⟨_,rfl,cs[i],r,rfl,hr2.same s3,λf hf=>(hok r hrm f hf).1,by rw[NQ.2 r hrm];omega,λq H5 s5 hqn hR=>?_⟩
   have MB:H5 l=some (.lst (qs.map V.ref)):=s5 _ _ hl3
   refine⟨MB,?_,rows.length-(i+1),by omega,rfl,hlt,ai.at (s3.trans s5) G5,af,qs++[q],by rw[List.map_append];rfl,by rw[List.length_append,hq];rfl,?_⟩
   ·rw[List.length_map,hq]
    have:i<100:=by rw[NQ.1]at hlt;omega
    exact Nat.lt_of_lt_of_le this (by decide)
   ·rw[show(gU rows).take (i+1)=(gU rows).take i++[r.map aZ] from oM er]
    refine GP.Paired.snoc (Paired.iW hP λa b z=>?_) ?_
    ·exact(z.same s5).off MB
    ·exact hR.off MB
  ·have ei:i=rows.length:=by omega
   subst ei
   refine .inl ⟨⟨_,zc,by rw[List.length_map];omega⟩,?_⟩
   refine⟨l,_,rfl,.inl ⟨bX.of hl3,λPp T8=>?_⟩⟩
   generalize Ue:upd H3 Pp (.tup (qs.map V.ref))=H4
   have s4:ai H2 H4:=by rw[←Ue];exact s3.trans (ai.upd T8)
   have m4:om K H4 Pp (gU rows):=by
    rw[←Ue]
    refine⟨qs,cL.of af,?_⟩
    rw[List.take_of_length_le (by unfold gU;rw[List.length_map];exact Nat.le_refl _)]at hP
    exact Paired.iW hP λa b z=>z.same (ai.upd T8)
   have Tt:=s4 _ _ Tv
   refine⟨_,rfl,x,_,dx,_,rfl,Tt,T.bu,T.gE,U8,?_⟩
   generalize R7:upd H4 x (.ins p.au dx (aJ "pairs" (.ref Pp) (aJ "signs" (.str sg) [])))=H5
   have Vu:H5 x=some (.ins p.au dx (aJ "pairs" (.ref Pp) (aJ "signs" (.str sg) []))):=by rw[←R7];exact af
   have f5:Off x H H5:=by rw[←R7];exact(f2.trans (Off.of s4)).trans Off.set
   have d5:Dat H4 H5:=by rw[←R7];exact Dat.set Tt
   refine⟨_,rfl,o,fo,rfl,hfo.dat (f5.dat hx),pY.1,λo' ho'=>?_⟩
   generalize Ud:upd H5 o' (.tup [.int (aZ fo).1,.int (aZ fo).2])=H6
   have s6:ai H5 H6:=by rw[←Ud];exact ai.upd ho'
   have ho6:eB K H6 o' (aZ fo):=by rw[←Ud];exact cL.of af
   have Tr:=s6 _ _ Vu
   refine⟨_,rfl,x,_,dx,_,rfl,Tr,T.bu,T.fE,U7,?_⟩
   generalize R6:upd H6 x (.ins p.au dx (aJ "opening" (.ref o') (aJ "pairs" (.ref Pp) (aJ "signs" (.str sg) []))))=H7
   have Vt:H7 x=some (.ins p.au dx (aJ "opening" (.ref o') (aJ "pairs" (.ref Pp) (aJ "signs" (.str sg) [])))):=by rw[←R6];exact af
   have f7:Off x H H7:=by rw[←R6];exact(f5.trans (Off.of s6)).trans Off.set
   have d7:Dat H6 H7:=by rw[←R6];exact Dat.set Tr
   refine⟨_,rfl,m,fm,rfl,hfm.dat (f7.dat hx),pq.1,λm' hm'=>?_⟩
   generalize Uc:upd H7 m' (.tup [.int (aZ fm).1,.int (aZ fm).2])=H8
   have s8:ai H7 H8:=by rw[←Uc];exact ai.upd hm'
   have RH:eB K H8 m' (aZ fm):=by rw[←Uc];exact cL.of af
   have Tq:=s8 _ _ Vt
   refine⟨_,rfl,x,_,dx,_,rfl,Tq,T.bu,T.iy,U6,?_⟩
   generalize R5:upd H8 x (.ins p.au dx (aJ "more" (.ref m') (aJ "opening" (.ref o') (aJ "pairs" (.ref Pp) (aJ "signs" (.str sg) [])))))=H9
   have Ms:H9 x=some (.ins p.au dx (aJ "more" (.ref m') (aJ "opening" (.ref o') (aJ "pairs" (.ref Pp) (aJ "signs" (.str sg) []))))):=by rw[←R5];exact af
   have f9:Off x H H9:=by rw[←R5];exact(f7.trans (Off.of s8)).trans Off.set
   have d9:Dat H8 H9:=by rw[←R5];exact Dat.set Tq
   have Ut:Dat H6 H9:=d7.trans ((Dat.of s8).trans d9)
   have Wn:Dat H4 H9:=d5.trans ((Dat.of s6).trans Ut)
   have M9:om K H9 Pp (gU rows):=m4.dat Wn
   have O9:eB K H9 o' (aZ fo):=ho6.dat Ut
   have m9:eB K H9 m' (aZ fm):=RH.dat d9
   have NI:∀r∈gU rows,∀f∈r,DR f:=lX λr hr f hf=>qT (hok r hr f hf).1
   have KS:=xA NQ
   refine⟨_,rfl,x,_,_,_,_,rfl,Ms,T.bu,T.gE,EU,_,rfl,x,_,_,_,_,rfl,Ms,T.bu,T.fE,AN,_,rfl,x,_,_,_,_,rfl,Ms,T.bu,T.iy,GK,?_⟩
   refine⟨Pp,o',m',gU rows,aZ fo,aZ fm,rfl,M9.Q5,O9,m9,by rw[KS.1];exact h12,λr hr=>by rw[KS.2 r hr];exact h12,λl1 Ha sa hl1 hla=>?_⟩
   have S9:∀n∈eN (aZ fo) (aZ fm) (gU rows),ki n:=λn hn=>by
    have z:∀{f:aS},DR f->ki f.2:=λq=>⟨by have:=q.1;omega,q.2⟩
    rcases List.mem_cons.mp hn with e|hn
    ·rw[e];exact z (qT pY.1)
    rcases List.mem_cons.mp hn with e|hn
    ·rw[e];exact z (qT pq.1)
    obtain⟨f,hf,rfl⟩:=List.mem_map.mp hn
    obtain⟨r,hr,hfr⟩:=List.mem_flatten.mp hf
    exact z (NI r hr f hfr)
   have Q8:(eN (aZ fo) (aZ fm) (gU rows)).length<=1000:=by
    unfold eN
    rw[List.length_cons,List.length_cons,List.length_map,uE KS.2,KS.1]
    have:sg.cps.size*sg.cps.size<=12*12:=Nat.mul_le_mul h12 h12
    omega
   refine⟨l1,_,rfl,bX.of hla,Q8,S9,λi=>(Uj i).bg,λfl Hb sb hfl hlb=>?_⟩
   have FI:=Hh S9
   have eU:jG (lH (eN (aZ fo) (aZ fm) (gU rows))).1=gr (aZ fo).2 (aZ fm).2 (gU rows):=by rw[FI.prod,FI.unit,rE]
   have hsm:=FI.small
   generalize (lH (eN (aZ fo) (aZ fm) (gU rows))).1=MS at hlb eU hsm
   clear FI
   have hxb:=sb _ _ (sa _ _ Ms)
   refine⟨_,rfl,x,_,dx,_,rfl,hxb,T.bu,T.lD,U5,?_⟩
   generalize N1:upd Hb x (.ins p.au dx (aJ "factors" (.ref fl) (aJ "more" (.ref m') (aJ "opening" (.ref o') (aJ "pairs" (.ref Pp) (aJ "signs" (.str sg) []))))))=Hc
   have hxc:Hc x=some (.ins p.au dx (aJ "factors" (.ref fl) (aJ "more" (.ref m') (aJ "opening" (.ref o') (aJ "pairs" (.ref Pp) (aJ "signs" (.str sg) [])))))):=by rw[←N1];exact af
   have fc:Off x H Hc:=by rw[←N1];exact((f9.trans (Off.of sa)).trans (Off.of sb)).trans Off.set
   have dc:Dat H9 Hc:=by rw[←N1];exact((Dat.of sa).trans (Dat.of sb)).trans (Dat.set hxb)
   have ME:Hc fl=some (.lst (MS.map V.int)):=by rw[←N1];exact Dat.set hxb fl _ (λ_ _ _ z=>by cases z) hlb
   have ub:Bu (gr (aZ fo).2 (aZ fm).2 (gU rows)):=by
    have z:=Uj (eN (aZ fo) (aZ fm) (gU rows)).length
    rw[List.take_of_length_le (Nat.le_refl _),rE]at z
    exact z
   have VF:∀i,Bg (jG (MS.take i)):=λi=>by
    obtain⟨z1,z2⟩:=CS hsm i
    rw[eU]at z2
    exact Nat.lt_of_le_of_lt (show _<=(gr (aZ fo).2 (aZ fm).2 (gU rows)).natAbs by omega) ub.bg
   refine⟨_,rfl,x,_,_,_,_,rfl,hxc,T.bu,T.lD,AO,fl,MS,rfl,bX.of ME,hsm,VF,?_⟩
   have up:=D4 (qT pY.1) (qT pq.1) NI
   have KZ:∀{f:aS},Nf f->Ng (gr (aZ fo).2 (aZ fm).2 (gU rows)) (aZ f):=λz=>⟨qT z.1,GO z.2,Bu.div ub _⟩
   rw[eU]
   generalize hu:gr (aZ fo).2 (aZ fm).2 (gU rows)=u at *
   refine⟨_,rfl,x,_,dx,_,rfl,hxc,T.bu,T.jy,U4,?_⟩
   generalize Kq:upd Hc x (.ins p.au dx (aJ "unit" (.int u) (aJ "factors" (.ref fl) (aJ "more" (.ref m') (aJ "opening" (.ref o') (aJ "pairs" (.ref Pp) (aJ "signs" (.str sg) [])))))))=DK
   have G2:DK x=some (.ins p.au dx (aJ "unit" (.int u) (aJ "factors" (.ref fl) (aJ "more" (.ref m') (aJ "opening" (.ref o') (aJ "pairs" (.ref Pp) (aJ "signs" (.str sg) []))))))):=by rw[←Kq];exact af
   have Wl:Off x H DK:=by rw[←Kq];exact fc.trans Off.set
   have M3:Dat Hc DK:=by rw[←Kq];exact Dat.set hxc
   have K6:Dat H9 DK:=dc.trans M3
   have MF:DK fl=some (.lst (MS.map V.int)):=M3 fl _ (λ_ _ _ z=>by cases z) ME
   refine⟨_,rfl,x,_,_,_,_,rfl,G2,T.bu,T.i9,ET,_,rfl,x,_,_,_,_,rfl,G2,T.bu,T.gE,C6,_,rfl,x,_,_,_,_,rfl,G2,T.bu,T.jy,GJ,?_⟩
   refine⟨sg,Pp,u,gU rows,rfl,M9.dat K6,q2,q4,KS,lX λr hr f hf=>KZ (hok r hr f hf),λd Ol kvs Eu hdn RX hc=>?_⟩
   have JW:=Eu _ _ G2
   refine⟨_,rfl,x,_,dx,_,rfl,JW,T.bu,T.t9,U3,?_⟩
   generalize G8:upd Ol x (.ins p.au dx (aJ "costs" (.ref d) (aJ "unit" (.int u) (aJ "factors" (.ref fl) (aJ "more" (.ref m') (aJ "opening" (.ref o') (aJ "pairs" (.ref Pp) (aJ "signs" (.str sg) []))))))))=Ga
   have G1:Ga x=some (.ins p.au dx (iA sg Pp o' m' u (d,fl))):=by rw[←G8];exact af
   have Sw:Dat DK Ga:=by rw[←G8];exact(Dat.of Eu).trans (Dat.set JW)
   have Sq:Off x H Ga:=by rw[←G8];exact(Wl.trans (Off.of Eu)).trans Off.set
   have RW:Ga d=some (.dT kvs):=by rw[←G8];exact Dat.set JW d _ (λ_ _ _ z=>by cases z) RX
   obtain⟨w1,w2,w3⟩:=KZ pY
   obtain⟨y1,y2,y3⟩:=KZ pq
   refine⟨_,rfl,x,_,_,_,_,rfl,G1,T.bu,T.fE,oR,_,rfl,x,_,_,_,_,rfl,G1,T.bu,T.jy,uC,o',aZ fo,u,rfl,(O9.dat K6).dat Sw,w1,w2.bg,w3.bg,?_⟩
   refine⟨_,rfl,x,_,dx,_,rfl,G1,T.bu,T.lV,U1,?_⟩
   generalize Ko:upd Ga x (.ins p.au dx (aJ "opening_units" (.int ((aZ fo).1*(u / (aZ fo).2))) (iA sg Pp o' m' u (d,fl))))=DJ
   have Fd:DJ x=some (.ins p.au dx (aJ "opening_units" (.int ((aZ fo).1*(u / (aZ fo).2))) (iA sg Pp o' m' u (d,fl)))):=by rw[←Ko];exact af
   have Sv:Dat Ga DJ:=by rw[←Ko];exact Dat.set G1
   have Wk:Off x H DJ:=by rw[←Ko];exact Sq.trans Off.set
   refine⟨_,rfl,x,_,_,_,_,rfl,Fd,T.bu,T.iy,(oQ (by decide +kernel)).trans uD,_,rfl,x,_,_,_,_,rfl,Fd,T.bu,T.jy,(oQ (by decide +kernel)).trans uC,m',aZ fm,u,rfl,((m9.dat K6).dat Sw).dat Sv,y1,y2.bg,y3.bg,?_⟩
   refine⟨_,rfl,x,_,dx,_,rfl,Fd,T.bu,T.oi,U0,?_⟩
   have Od:Dat DK (upd DJ x (.ins p.au dx (vh sg Pp o' m' u (d,fl) ((aZ fo).1*(u / (aZ fo).2)) ((aZ fm).1*(u / (aZ fm).2))))):=Sw.trans (Sv.trans (Dat.set Fd))
   have Wj:Off x H (upd DJ x (.ins p.au dx (vh sg Pp o' m' u (d,fl) ((aZ fo).1*(u / (aZ fo).2)) ((aZ fm).1*(u / (aZ fm).2))))):=Wk.trans Off.set
   refine k _ ⟨hS,KS,?_,?_,?_,?_,?_,dx,Pp,o',m',(d,fl),kvs,?_,(M9.dat K6).dat Od,(O9.dat K6).dat Od,(m9.dat K6).dat Od,?_,?_,MS,hsm,?_,?_⟩ Wj (λc0 hc0 C' WU fs' hx' hl'=>?_)
   ·rw[hu];exact lX λr hr f hf=>KZ (hok r hr f hf)
   ·rw[hu];exact KZ pY
   ·rw[hu];exact KZ pq
   ·rw[hu];exact up
   ·rw[hu];exact ub
   ·rw[hu];exact af
   ·exact(Sv.trans (Dat.set Fd)) d _ (λ_ _ _ z=>by cases z) RW
   ·rw[hu];exact hc
   ·rw[hu];exact eU
   ·exact Od fl _ (λ_ _ _ z=>by cases z) MF
   ·rw[af]at hx'
    cases hx'
    have e:fl=c0:=V.ref.inj (Option.some.inj ((xK (x:=sg) (P:=Pp) (o:=o') (m:=m') (u:=u) (d:=(d,fl))).symm.trans hl'))
    subst e
    cases q:H fl with
    |none=>exact hc0 q
    |some u0 =>
     by_cases ex:fl=x
     ·rw[ex,sa _ _ Ms]at hfl
      cases hfl
     ·rw[(f9.trans (Off.of sa)) fl u0 q ex]at hfl
      cases hfl
end
section
variable{P:Program}{w:World}{K:PySem.W.Frag}{mg:Str->Option Value}{base:Heap}
theorem yZ {bR:Addr} {bI:FuncData} {p:Pm} (T:Txt K mg p) (aQ:Dn K mg "_law_next" gB l6 bR bI)  :aW P w K mg base ee 1 bR bI l6 (qD K):=by
 refine aQ.fn.ok kF (λvs H Q E h=>?_) (λcdv A outer s H vs Q E hr h=>?_)
 ·obtain⟨s,t,ns,k,rfl,_⟩:=h
  rfl
 ·obtain⟨s,t,ns,k,rfl,hC,hk2,kk⟩:=h
  have hS:=hC.QB
  have G7:=hC.Lz
  have ht:=hC.at_
  have hk:=hC.k0
  refine⟨_,(ak (lT (aB gu (aV bG (pv 1) aj (λ_ _=>rfl)) aj) (o7 (pv 1) aj set_list))
   (ak (aE (i:=2) kF.nd rfl (Or.inl rfl) aj)
   (ak (ck (bw tV (ay (bL) rfl T.dG b6 (aa (pv 0) ah)) aj (bH _)) (aq (aE (i:=2) kF.nd rfl (Or.inl rfl) (aV bG (pv 0) (aB cA (aV bG (pv 1) aj (λ_ _=>rfl)) (ay (bL) rfl T.dG b6 (aa (pv 0) ah))) (λ_ _=>rfl)))) aY)
   (ak (aE (i:=3) kF.nd rfl (Or.inl rfl) (aB cA (aB o9 (aB gu (aB gu (aB cA (pv 2) aj) (aB o9 (aB o9 (aV bG (pv 1) aj (λ_ _=>rfl)) (aV bG (pv 1) aj (λ_ _=>rfl))) aj)) aj) aj) aj))
   (aq (aR (aB cA (aB o9 (pv 3) (pv 3)) aj))))))),?_⟩
  refine⟨_,rfl,t,_,_,_,rfl,rfl,bX.of ht,rfl,_,_,rfl,rfl,_,rfl,t,_,_,0,rfl,rfl,ht,rfl,?_⟩
  have hq:bX K (upd H t (.lst [.int (k+1)])) s (ns.map V.int):=G7 _
  refine⟨_,rfl,_,_,rfl,.inl ⟨_,hq,rfl⟩,_,_,rfl,rfl,_,rfl,?_⟩
  have fin:∀c:Int,∀m1:Int,m1=(c % 2147483647+(k+1)*(k+1)*7919+11)*48271 % 2147483647->Q (.int (m1*m1 % 1999999973)) (upd H t (.lst [.int (k+1)])):=λc m1 _ =>
   kk _ (Int.emod_nonneg _ (by decide)) (Int.emod_lt_of_pos _ (by decide))
  have rest:∀c:Int,Q (.int (((c % 2147483647+(k+1)*(k+1)*7919+11)*48271 % 2147483647)*((c % 2147483647+(k+1)*(k+1)*7919+11)*48271 % 2147483647) % 1999999973)) (upd H t (.lst [.int (k+1)])):=λc=>fin c _ rfl
  have Kr:bX K (upd H t (.lst [.int (k+1)])) t [.int (k+1)]:=bX.of af
  refine fQ (λh0=>?_) (λh0=>?_)
  ·have hn:0<ns.length:=by rw[List.length_map]at h0;omega
   have i1:=Int.emod_nonneg (k+1) (show((ns.length:Nat):Int)≠0 by omega)
   have i2:=Int.emod_lt_of_pos (k+1) (show(0:Int)<((ns.length:Nat):Int) by omega)
   obtain⟨j,hj⟩:∃j:Nat,(k+1) % ((ns.length:Nat):Int)=(j:Int):=⟨_,(Int.toNat_of_nonneg i1).symm⟩
   have hjl:j<ns.length:=by omega
   refine⟨_,rfl,_,rfl,t,_,_,_,rfl,rfl,Kr,rfl,_,rfl,_,_,rfl,.inl ⟨_,hq,rfl⟩,_,_,rfl,rfl,(by show(0:Int)<(((ns.map V.int).length:Nat):Int);rw[List.length_map];omega),?_⟩
   refine⟨s,_,_,.int ns[j],rfl,rfl,hq,?_,?_⟩
   ·rw[List.length_map,hj]
    exact bO (by rw[List.getElem?_map,List.getElem?_eq_getElem hjl];rfl)
   ·refine⟨_,rfl,_,_,rfl,rfl,(by show(0:Int)<_;decide),?_⟩
    refine⟨_,rfl,t,_,_,_,rfl,rfl,Kr,rfl,_,rfl,t,_,_,_,rfl,rfl,Kr,rfl,_,_,rfl,rfl,.inl ⟨by omega,by omega⟩,_,_,rfl,rfl,.inr ⟨by decide,by decide⟩,_,_,rfl,rfl,_,_,rfl,rfl,_,_,rfl,rfl,.inr ⟨by decide,by decide⟩,_,_,rfl,rfl,(by show(0:Int)<_;decide),?_⟩
    have m0:=Int.emod_nonneg ((ns[j] % 2147483647+(k+1)*(k+1)*7919+11)*48271) (show(2147483647:Int)≠0 by decide)
    have m1:=Int.emod_lt_of_pos ((ns[j] % 2147483647+(k+1)*(k+1)*7919+11)*48271) (show(0:Int)<2147483647 by decide)
    exact⟨_,rfl,_,rfl,_,_,rfl,rfl,.inl ⟨by omega,by omega⟩,_,_,rfl,rfl,(by show(0:Int)<_;decide),rest _⟩
  ·refine⟨_,rfl,_,_,rfl,rfl,(by show(0:Int)<_;decide),?_⟩
   refine⟨_,rfl,t,_,_,_,rfl,rfl,Kr,rfl,_,rfl,t,_,_,_,rfl,rfl,Kr,rfl,_,_,rfl,rfl,.inl ⟨by omega,by omega⟩,_,_,rfl,rfl,.inr ⟨by decide,by decide⟩,_,_,rfl,rfl,_,_,rfl,rfl,_,_,rfl,rfl,.inr ⟨by decide,by decide⟩,_,_,rfl,rfl,(by show(0:Int)<_;decide),?_⟩
   have m0:=Int.emod_nonneg (((0:Int) % 2147483647+(k+1)*(k+1)*7919+11)*48271) (show(2147483647:Int)≠0 by decide)
   have m1:=Int.emod_lt_of_pos (((0:Int) % 2147483647+(k+1)*(k+1)*7919+11)*48271) (show(0:Int)<2147483647 by decide)
   exact⟨_,rfl,_,rfl,_,_,rfl,rfl,.inl ⟨by omega,by omega⟩,_,_,rfl,rfl,(by show(0:Int)<_;decide),rest _⟩
theorem rX {cK bR:Addr} {cy bI:FuncData} {p:Pm} (T:Txt K mg p) (br:Dn K mg "_law_fraction" gC l6 cK cy) (aQ:Dn K mg "_law_next" gB l6 bR bI) (fY:aW P w K mg base ee 1 bR bI l6 (qD K)):aW P w K mg base ee 2 cK cy l6 (Al K):=by
 refine br.fn.ok fZ (λvs H Q E h=>?_) (λcdv A outer s H vs Q E hr h=>?_)
 ·obtain⟨s,t,ns,k,rfl,_⟩:=h
  rfl
 ·obtain⟨s,t,ns,k,rfl,hC,hk2,kk⟩:=h
  have hS:=hC.QB
  have G7:=hC.Lz
  have ht:=hC.at_
  have hk:=hC.k0
  refine⟨_,(ak (aE (i:=2) fZ.nd rfl (Or.inl rfl) (aD fY (hr.mono (by decide)) rfl aQ.m aQ.fn.kp aQ.b .nil bB (aa (pv 0) (aa (pv 1) ah))))
   (ak (aE (i:=3) fZ.nd rfl (Or.inl rfl) (aV bG (fk (aH aj (aH aj (aH aj (aH aj (aH aj (aH (aB gu aj (aB cA (aB gw (pv 2) aj) aj)) ah))))))) (aB cA (pv 2) aj) (λ_ _=>rfl)))
   (ak (ck (bw iP (aB cA (aB gw (pv 2) aj) aj) aj (bH _)) (ak (aE (i:=4) fZ.nd rfl (Or.inl rfl) aj)
   (ak (ck (bw tV (ay (bL) rfl T.dG b6 (aa (pv 0) ah)) aj (bH _)) (aq (aE (i:=4) fZ.nd rfl (Or.inl rfl) (aV bG (pv 0) (aB cA (aV bG (pv 1) aj (λ_ _=>rfl)) (ay (bL) rfl T.dG b6 (aa (pv 0) ah))) (λ_ _=>rfl)))) aY)
   (aq (aR (cU (aa (aB EL (aB cA (aB gu (aB cA (pv 4) (aB qL aj aj)) (aB o9 (pv 2) (aB qL aj aj))) (aB qL aj aj)) (aB o9 aj (aB qL aj aj))) (aa (pv 3) ah))))))) aY)
   (aq (aR (cU (aa (aB EL (aB cA (aB gw (pv 2) aj) aj) aj) (aa (pv 3) ah)))))))),?_⟩
  refine⟨_,rfl,_,rfl,s,t,ns,k,rfl,hC,hk2,λm hm hm2=>?_⟩
  obtain⟨v,hv,hv1,hv2⟩:∃v:Int,A9 [V.int 1,V.int 1,V.int 2,V.int 3,V.int 6,V.int (1+m / 60 % 999)] (m % 6)=some (V.int v)/\1<=v/\v<=999:=by
   have h6:m % 6=0\/m % 6=1\/m % 6=2\/m % 6=3\/m % 6=4\/m % 6=5:=by omega
   rcases h6 with h|h|h|h|h|h
   ·rw[h];exact⟨1,rfl,by omega,by omega⟩
   ·rw[h];exact⟨1,rfl,by omega,by omega⟩
   ·rw[h];exact⟨2,rfl,by omega,by omega⟩
   ·rw[h];exact⟨3,rfl,by omega,by omega⟩
   ·rw[h];exact⟨6,rfl,by omega,by omega⟩
   ·rw[h];exact⟨1+m / 60 % 999,rfl,by omega,by omega⟩
  refine⟨_,rfl,_,_,rfl,rfl,⟨by decide,by decide⟩,_,_,rfl,rfl,(by show(0:Int)<_;decide),_,_,rfl,rfl,(by show 6<=sizeLine;decide),λl hl'=>?_⟩
  have s1:ai (upd H t (.lst [.int (k+1)])) (upd (upd H t (.lst [.int (k+1)])) l (.lst [.int 1,.int 1,.int 2,.int 3,.int 6,.int (1+m / 60 % 999)])):=ai.upd hl'
  have hq:bX K (upd (upd H t (.lst [.int (k+1)])) l (.lst [.int 1,.int 1,.int 2,.int 3,.int 6,.int (1+m / 60 % 999)])) s (ns.map V.int):=s1.seq (G7 _)
  have Kr:bX K (upd (upd H t (.lst [.int (k+1)])) l (.lst [.int 1,.int 1,.int 2,.int 3,.int 6,.int (1+m / 60 % 999)])) t [.int (k+1)]:=s1.seq (bX.of af)
  refine⟨_,rfl,_,_,rfl,rfl,(by show(0:Int)<_;decide),l,_,_,_,rfl,rfl,bX.of af,hv,?_⟩
  refine⟨_,rfl,_,_,rfl,rfl,⟨by decide,by decide⟩,_,_,rfl,rfl,(by show(0:Int)<_;decide),rfl,_,rfl,?_⟩
  refine jo (λh4=>?_) (λh4=>?_)
  ·refine⟨_,rfl,_,_,rfl,.inl ⟨_,hq,rfl⟩,_,_,rfl,rfl,_,rfl,?_⟩
   have Wh:∀r,upd (upd H t (.lst [.int (k+1)])) l (.lst [.int 1,.int 1,.int 2,.int 3,.int 6,.int (1+m / 60 % 999)]) r=none->H r=none:=λr hr=>sY (ai.free s1 hr)
   have last:∀c:Int,S6 c->∀r,upd (upd H t (.lst [.int (k+1)])) l (.lst [.int 1,.int 1,.int 2,.int 3,.int 6,.int (1+m / 60 % 999)]) r=none →
     Q (.ref r) (upd (upd (upd H t (.lst [.int (k+1)])) l (.lst [.int 1,.int 1,.int 2,.int 3,.int 6,.int (1+m / 60 % 999)])) r (.tup [.int c,.int v])):=λc hc r hr =>
    kk (c,v) r _ ⟨hv1,hv2,hc⟩ (s1.trans (ai.upd hr)) (Wh r hr) af
   refine fQ (λh0=>?_) (λh0=>?_)
   ·have hn:0<ns.length:=by rw[List.length_map]at h0;omega
    have i1:=Int.emod_nonneg (k+1) (show((ns.length:Nat):Int)≠0 by omega)
    have i2:=Int.emod_lt_of_pos (k+1) (show(0:Int)<((ns.length:Nat):Int) by omega)
    obtain⟨j,hj⟩:∃j:Nat,(k+1) % ((ns.length:Nat):Int)=(j:Int):=⟨_,(Int.toNat_of_nonneg i1).symm⟩
    have hjl:j<ns.length:=by omega
    refine⟨_,rfl,_,rfl,t,_,_,_,rfl,rfl,Kr,rfl,_,rfl,_,_,rfl,.inl ⟨_,hq,rfl⟩,_,_,rfl,rfl,(by show(0:Int)<(((ns.map V.int).length:Nat):Int);rw[List.length_map];omega),?_⟩
    refine⟨s,_,_,.int ns[j],rfl,rfl,hq,?_,?_⟩
    ·rw[List.length_map,hj]
     exact bO (by rw[List.getElem?_map,List.getElem?_eq_getElem hjl];rfl)
    ·refine⟨_,rfl,_,_,rfl,rfl,⟨by decide,by decide,by decide⟩,_,_,rfl,rfl,(by show(0:Int)<_;decide),_,rfl,_,_,rfl,rfl,⟨by decide,by decide,by decide⟩,_,_,rfl,rfl,.inl ⟨by omega,by omega⟩,_,_,rfl,rfl,?_⟩
     refine⟨_,_,rfl,rfl,⟨by decide,by decide,by decide⟩,_,_,rfl,rfl,(by show(0:Int)<_;decide),_,_,rfl,rfl,⟨by decide,by decide,by decide⟩,_,_,rfl,rfl,.inl ⟨by decide,by decide⟩,_,_,rfl,rfl,_,rfl,?_⟩
     exact⟨by show 2<=sizeLine;decide,λr hr=>last _ (CA _) r hr⟩
   ·refine⟨_,rfl,_,_,rfl,rfl,⟨by decide,by decide,by decide⟩,_,_,rfl,rfl,(by show(0:Int)<_;decide),_,rfl,_,_,rfl,rfl,⟨by decide,by decide,by decide⟩,_,_,rfl,rfl,.inl ⟨by omega,by omega⟩,_,_,rfl,rfl,?_⟩
    refine⟨_,_,rfl,rfl,⟨by decide,by decide,by decide⟩,_,_,rfl,rfl,(by show(0:Int)<_;decide),_,_,rfl,rfl,⟨by decide,by decide,by decide⟩,_,_,rfl,rfl,.inl ⟨by decide,by decide⟩,_,_,rfl,rfl,_,rfl,?_⟩
    exact⟨by show 2<=sizeLine;decide,λr hr=>last _ (CA _) r hr⟩
  ·refine⟨_,rfl,_,_,rfl,rfl,⟨by decide,by decide⟩,_,_,rfl,rfl,(by show(0:Int)<_;decide),_,_,rfl,rfl,_,rfl,?_⟩
   exact⟨by show 2<=sizeLine;decide,λr hr=>kk (m / 24 % 13-4,v) r _ ⟨hv1,hv2,zO (by omega) (by omega)⟩ (s1.trans (ai.upd hr)) (sY (ai.free s1 hr)) af⟩
theorem yY {fV:Addr} {eW:FuncData} {p:Pm} (T:Txt K mg p) (c5:Dn K mg "_law_part" j9 F4 fV eW)  :aW P w K mg base ee 1 fV eW F4 Aj:=by
 refine c5.fn.ok rJ (λvs H Q E h=>?_) (λcdv A outer s H vs Q E hr h=>?_)
 ·obtain⟨a,b,rfl,_⟩:=h
  rfl
 ·obtain⟨a,b,rfl,ha,hb,k⟩:=h
  refine⟨_,(ak (tP PassesOwn.never (bw tV (pv 1) aj (bH _)) (aq (JB (i:=0) (j:=1) rfl rJ.nd rfl rfl (by decide) rfl rfl (aa (pv 1) (aa (aB cA (pv 0) (pv 1)) ah)) (by rfl))))
   (aq (aR (pv 0)))),?_⟩
  refine⟨λm σ H'=>H'=H/\∃(x y:Int),σ=[some (.int x),some (.int y)]/\0<=x/\0<=y/\Int.gcd x y=Int.gcd a b/\m=y.toNat,⟨b.toNat,rfl,a,b,rfl,ha,hb,rfl,rfl⟩,?_⟩
  rintro m σ H' ⟨rfl,x,y,rfl,hx,hy,hg,rfl⟩
  refine⟨_,rfl,_,_,rfl,rfl,_,rfl,?_⟩
  refine fQ (λh0=>?_) (λh0=>?_)
  ·have l1:=Int.emod_nonneg x (show y≠0 by omega)
   have l2:=Int.emod_lt_of_pos x h0
   refine⟨λσ' DS=>DS=H'/\σ'=[some (.int y),some (.int (x % y))],?_,?_⟩
   ·rintro σ' DS ⟨rfl,rfl⟩
    exact⟨(x % y).toNat,by omega,rfl,y,x % y,rfl,hy,l1,(zB x y).trans hg,rfl⟩
   ·exact⟨_,rfl,_,rfl,_,rfl,_,_,rfl,rfl,h0,_,_,rfl,rfl,rfl⟩
  ·have Wg:y=0:=by omega
   subst Wg
   refine⟨_,rfl,?_⟩
   have e:x=(Int.gcd x 0:Int):=by rw[Int.gcd_zero_right];omega
   show Q (.int x) H'
   rw[e,hg]
   exact k
end
section
variable{P:Program}{w:World}{K:PySem.W.Frag}{mg:Str->Option Value}{base:Heap}
theorem xu {iR bR:Addr} {gY bI:FuncData} {p:Pm} (T:Txt K mg p) (fM:Dn K mg "_law_signs" kH F3 iR gY) (aQ:Dn K mg "_law_next" gB l6 bR bI) (fY:aW P w K mg base ee 1 bR bI l6 (qD K)):aW P w K mg base ee 2 iR gY F3 (Bv K):=by
 refine fM.fn.ok c6 (λvs H Q E h=>?_) (λcdv A outer s H vs Q E hr h=>?_)
 ·obtain⟨s,t,ns,k,n,rfl,_⟩:=h
  rfl
 ·obtain⟨s,t,ns,k,n,rfl,hC,hk,hn1,hn2,kk⟩:=h
  refine⟨_,(ak (aE (i:=3) c6.nd rfl (Or.inl rfl) aI)
   (ak (aE (i:=3) c6.nd rfl (Or.inl rfl) (aB bK (pv 3) aI))
   (ak (aE (i:=4) c6.nd rfl (Or.inl rfl) (aD fY (hr.mono (by decide)) rfl aQ.m aQ.fn.kp aQ.b .nil bB (aa (pv 0) (aa (pv 1) ah))))
   (ak (aE (i:=5) c6.nd rfl (Or.inl rfl) aI)
   (ak (jM PassesOwn.never rfl (jl rfl T.lP (aa (pv 2) ah)) (bD (i:=6) c6.nd rfl (Or.inl rfl)) (aq (aE (i:=5) c6.nd rfl (Or.inl rfl) (aB bK (pv 5) (aV Fb (pv 3) (aB cA (aB gu (pv 4) (aB o9 (pv 6) (aB gu aj (aB cA (aB gw (pv 4) aj) aj)))) aj) (λ_ _=>rfl))))))
   (ak (aE (i:=7) c6.nd rfl (Or.inl rfl) aI)
   (ak (jM PassesOwn.never rfl (AB (pv 5)) (bD (i:=8) c6.nd rfl (Or.inl rfl)) (aq (ck (bw xj (pv 8) (pv 7) (by with_unfolding_all rfl)) (aq (aE (i:=7) c6.nd rfl (Or.inl rfl) (aB bK (pv 7) (pv 8)))) aY)))
   (aq (aR (pv 7)))))))))),?_⟩
  refine⟨_,rfl,_,_,rfl,rfl,(by decide +kernel),?_⟩
  refine⟨_,rfl,_,rfl,s,t,ns,k,rfl,hC,hk,λm hm hm2=>?_⟩
  refine⟨_,rfl,n,rfl,by omega,by omega,?_⟩
  refine nW (lo:=0) (n:=n.toNat) (λi σ H2=>H2=upd H t (.lst [.int (k+1)])/\∃(S here:Str) (v6:Option V),σ=[some (.ref s),some (.ref t),some (.int n),some (.str S),some (.int m),some (.str here),v6,none,none] ∧
   S.cps.size=92/\S.cps.all fR=true/\here.cps.size=i/\∀c∈here.cps.toList,fR c=true) ⟨rfl,_,_,_,rfl,(by kernel_rfl),(by kernel_rfl),(by kernel_rfl),λc hc=>(by cases hc)⟩ ?_ ?_
  ·rintro i σ H2 hi ⟨rfl,S,here,v6,rfl,R1,G7,K1,RM⟩
   have i1:=Int.emod_nonneg (m+(0+(i:Int))*(1+m / 92 % 91)) (show(92:Int)≠0 by decide)
   have i2:=Int.emod_lt_of_pos (m+(0+(i:Int))*(1+m / 92 % 91)) (show(0:Int)<92 by decide)
   obtain⟨j,hj⟩:∃j:Nat,(m+(0+(i:Int))*(1+m / 92 % 91)) % 92=(j:Int):=⟨_,(Int.toNat_of_nonneg i1).symm⟩
   have hjl:j<S.cps.toList.length:=by rw[Array.length_toList];omega
   refine⟨_,rfl,_,rfl,_,rfl,_,rfl,_,rfl,_,_,rfl,rfl,⟨by decide,by decide⟩,_,_,rfl,rfl,(by show(0:Int)<_;decide),_,_,rfl,rfl,_,_,rfl,rfl,.inl ⟨by omega,by omega⟩,_,_,rfl,rfl,_,_,rfl,rfl,(by show(0:Int)<_;decide),?_⟩
   refine⟨S,_,S.cps.toList[j],rfl,rfl,(by show S.cps.size<=_;rw[R1];decide),(by rw[hj];exact bO (List.getElem?_eq_getElem hjl)),?_⟩
   refine⟨_,_,rfl,rfl,(by show here.cps.size+1<=sizeLine;rw[K1];exact Nat.le_trans (show i+1<=100 by omega) (by decide)),?_⟩
   refine⟨rfl,S,_,_,rfl,R1,G7,?_,?_⟩
   ·show(here.cps++ #[S.cps.toList[j]]).size=i+1
    rw[Array.size_append,K1]
    rfl
   ·intro c hc
    have hc':c∈here.cps.toList++[S.cps.toList[j]]:=by
     have e:(here.cps++ #[S.cps.toList[j]]).toList=here.cps.toList++[S.cps.toList[j]]:=by simp
     rw[←e];exact hc
    rcases List.mem_append.mp hc' with hc|hc
    ·exact RM c hc
    ·rw[List.mem_singleton.mp hc]
     have:=Array.all_eq_true_iff_forall_mem.mp G7 _ (Array.mem_toList_iff.mp (List.getElem_mem hjl))
     exact this
  ·rintro σ H2 ⟨rfl,S,here,v6,rfl,R1,G7,K1,RM⟩
   refine⟨_,rfl,here,rfl,Hg (x:=here) (λi σ H2=>H2=upd H t (.lst [.int (k+1)])/\∃(made:Str) (v8:Option V),σ=[some (.ref s),some (.ref t),some (.int n),some (.str S),some (.int m),some (.str here),v6,some (.str made),v8] ∧
    made.cps.size<=i/\(0<i->0<made.cps.size)/\(∀c∈made.cps.toList,fR c=true)/\made.cps.toList.Nodup) ⟨rfl,_,_,rfl,Nat.le_of_eq (by kernel_rfl),λz=>absurd z (by decide),λc hc=>(by cases hc),List.nodup_nil⟩ ?_ ?_⟩
   ·rintro i c σ H2 hc ⟨rfl,made,v8,rfl,m1,m2,m3,m4⟩
    have hi:i<here.cps.size:=by
     rw[←Array.getElem?_toList]at hc
     have:=(List.getElem?_eq_some_iff.mp hc).1
     simpa using this
    have hcs:fR c=true:=RM c (by rw[←Array.getElem?_toList]at hc;exact List.mem_of_getElem? hc)
    refine⟨_,rfl,_,rfl,_,_,rfl,rfl,_,rfl,?_⟩
    rw[StrLaws.found_one]
    by_cases hm':c∈made.cps.toList
    ·rw[decide_eq_true hm']
     refine jK ⟨rfl,made,_,rfl,by omega,λ_=>?_,m3,m4⟩
     have:=List.length_pos_of_mem hm'
     simpa using this
    ·rw[decide_eq_false hm']
     refine B9 ⟨_,rfl,_,rfl,_,_,rfl,rfl,(by show made.cps.size+1<=sizeLine;exact Nat.le_trans (show made.cps.size+1<=100 by omega) (by decide)),?_⟩
     have e:(made.cps++ #[c]).toList=made.cps.toList++[c]:=by simp
     refine⟨rfl,_,_,rfl,?_,λ_=>?_,λd hd=>?_,?_⟩
     ·show(made.cps++ #[c]).size<=i+1
      rw[Array.size_append]
      show made.cps.size+1<=_
      omega
     ·show 0<(made.cps++ #[c]).size
      rw[Array.size_append]
      show 0<made.cps.size+1
      omega
     ·have hd':d∈made.cps.toList++[c]:=by rw[←e];exact hd
      rcases List.mem_append.mp hd' with hd|hd
      ·exact m3 d hd
      ·rw[List.mem_singleton.mp hd];exact hcs
     ·show(made.cps++ #[c]).toList.Nodup
      rw[e]
      refine List.nodup_append.mpr ⟨m4,(by simp),λx hx y hy z=>?_⟩
      rw[List.mem_singleton.mp hy]at z
      exact hm' (z▸hx)
   ·rintro σ H2 ⟨rfl,made,v8,rfl,m1,m2,m3,m4⟩
    exact⟨_,rfl,kk made ⟨m2 (by omega),by omega,m3,m4⟩ (by omega)⟩
end
def sR(K:PySem.W.Frag)(H:Hp)(t l:Addr)(n:Nat)(k:Int)(H2:Hp):Prop:=∃rs rows,oA K (Wo t H2) l rs rows/\Bc n rows/\(∀r∈rows,∀f∈r,DG f)/\(∀r∈rs,H r=none)/\ai (Wo t H) (Wo t H2)/\H2 t=some (.lst [.int k])
section
variable{P:Program}{w:World}{K:PySem.W.Frag}{mg:Str->Option Value}{base:Heap}
theorem xw {iS bR cK:Addr} {gZ bI cy:FuncData} {p:Pm} (T:Txt K mg p) (fN:Dn K mg "_law_pairs" kI F3 iS gZ) (aQ:Dn K mg "_law_next" gB l6 bR bI) (fY:aW P w K mg base ee 1 bR bI l6 (qD K)) (br:Dn K mg "_law_fraction" gC l6 cK cy) (jf:aW P w K mg base ee 2 cK cy l6 (Al K)):aW P w K mg base ee 3 iS gZ F3 (BA K):=by
 refine fN.fn.ok i7 (λvs H Q E h=>?_) (λcdv A outer s H vs Q E hr h=>?_)
 ·obtain⟨s,t,ns,k,n,rfl,_⟩:=h
  rfl
 ·obtain⟨s,t,ns,k,n,rfl,hC,hk,hn1,hn2,kk⟩:=h
  obtain⟨N,rfl⟩:∃N:Nat,n=(N:Int):=⟨n.toNat,by omega⟩
  have WT:1<=N:=by omega
  have R4:N<=12:=by omega
  refine⟨_,(ak (aE (i:=3) i7.nd rfl (Or.inl rfl) (lU iP (aB cA (aD fY (hr.mono (by decide)) rfl aQ.m aQ.fn.kp aQ.b .nil bB (aa (pv 0) (aa (pv 1) ah))) aj) aj (bH _)))
   (ak (tQ (i:=4) (N:=Tn) i7.nd rfl (Or.inl rfl) rfl (cC.zE (nt:=1) (ix:=[0,1,2]) rfl (by decide +kernel) (by decide +kernel) (by kernel_rfl) rfl (by kernel_rfl)) (jl rfl T.lP (aa (pv 2) ah)) (λ_ _ _ _ _ _ _=>(bD (i:=0) (show(Tn:List Str).Nodup by decide +kernel) rfl (Or.inl rfl))) (λ_ _ _ _ _ _ _=>(gv (N:=["_law_j","_law_script","_law_at"]) rfl (cC.zE (nt:=1) (ix:=[1,2]) rfl (by decide +kernel) (by decide +kernel) (by kernel_rfl) rfl (by kernel_rfl)) (jl rfl T.lP (aa (pv 3) ah)) (λ_ _ _ _ _ _ _=>(bD (i:=0) (show(["_law_j","_law_script","_law_at"]:List Str).Nodup by decide +kernel) rfl (Or.inl rfl))) (λ_ _ _ _ _ _ _=>(aD jf (hr.mono (by decide)) rfl br.m br.fn.kp br.b .nil bB (aa (pv 1) (aa (pv 2) ah)))))))
   (b4 (ck (cT (pv 3)) (aq (jM PassesOwn.never rfl (jl rfl T.lP (aa (pv 2) ah)) (bD (i:=6) i7.nd rfl (Or.inl rfl)) (aq (jM PassesOwn.never rfl (jl rfl T.lP (aa (pv 6) ah)) (bD (i:=5) i7.nd rfl (Or.inl rfl)) (aq (lT (aV bG (aV bG (pv 4) (pv 5) (λ_ _=>rfl)) (pv 6) (λ_ _=>rfl)) (o7 (aV bG (pv 4) (pv 6) (λ_ _=>rfl)) (pv 5) set_list))))))) aY)
   (aq (aR (pv 4)))))),?_⟩
  refine⟨_,rfl,_,rfl,s,t,ns,k,rfl,hC,by omega,λm hm hm2=>?_⟩
  refine⟨_,_,rfl,rfl,(by show(0:Int)<_;decide),rfl,?_⟩
  generalize K4:upd H t (.lst [.int (k+1)])=H1
  have C1:rD K H1 s t ns (k+1):=by rw[←K4];exact hC.step (by have:=hC.k0;omega)
  have w1:Wo t H1=Wo t H:=by rw[←K4];exact Wo.set
  refine⟨_,rfl,_,rfl,by omega,by omega,λl hl=>?_⟩
  have HP:l≠t:=λz=>by rw[z,C1.at_]at hl;cases hl
  have G5:H l=none:=by rw[←K4]at hl;exact sY hl
  refine⟨λi m ys H2=>m=N-i/\i<=N/\∃rs rows,ys=rs.map V.ref/\rs.length=i/\oA K (Wo t H2) l rs rows/\(∀r∈rows,r.length=N)/\(∀r∈rows,∀f∈r,DG f)/\(∀r∈rs,H r=none)/\ai (Wo t H) (Wo t H2)/\H2 t=some (.lst [.int (k+1+((i*N:Nat):Int))]),⟨N,rfl,Nat.zero_le _,[],[],rfl,rfl,?_,?_,?_,?_,?_,?_⟩,?_⟩
  ·rw[Wo.az HP]
   exact⟨rfl,af,List.nodup_nil,(by simp),λi r row h1=>by simp at h1⟩
  ·intro r hr;cases hr
  ·intro r hr;cases hr
  ·intro r hr;cases hr
  ·rw[Wo.az HP,w1];exact ai.upd (Wo.free G5)
  ·rw[az HP.symm,C1.at_,Nat.zero_mul];simp
  rintro i m' ys H2 ⟨rfl,hi,rs,rows,rfl,hrs,Oh,r1,r2,r3,s2,Ib⟩
  by_cases hlt:i<N
  ·refine .inr ⟨(by show i<((N:Int)).toNat;omega),?_⟩
   rintro x H3 ⟨rfl,rfl⟩
   refine⟨Kp.Jq,?_⟩
   refine⟨_,rfl,_,rfl,by omega,by omega,λl2 hl2=>?_⟩
   have AK:l2≠t:=λz=>by rw[z,Ib]at hl2;cases hl2
   have G4:H l2=none:=Wo.back s2 Ib hl2
   refine⟨λj m ys H4=>m=N-j/\j<=N/\H4 l2=some (.lst ys)/\∃ps row,ys=ps.map V.ref/\ps.length=j/\Paired (eB K (Wo t H4)) ps row/\(∀f∈row,DG f)/\ai (Wo t H3) (Wo t H4)/\H4 t=some (.lst [.int (k+1+((i*N:Nat):Int)+(j:Int))]),
    ⟨N,rfl,Nat.zero_le _,af,[],[],rfl,rfl,.nil,λf hf=>(by cases hf),?_,?_⟩,?_⟩
   ·rw[Wo.az AK];exact ai.upd (Wo.free hl2)
   ·rw[az AK.symm,Ib];simp
   rintro j m' ys H4 ⟨rfl,hj,TX,ps,row,rfl,hps,hP,ok,s4,Cc⟩
   have NG:ai (Wo t H) (Wo t H4):=s2.trans s4
   by_cases Cd:j<N
   ·refine .inr ⟨(by show j<((N:Int)).toNat;omega),?_⟩
    rintro x H5 ⟨rfl,rfl⟩
    refine⟨Kp.Jq,?_⟩
    have TY:i*N<=144:=Nat.le_trans (Nat.mul_le_mul (show i<=12 by omega) R4) (by decide)
    refine⟨_,rfl,_,rfl,s,t,ns,_,rfl,hC.off NG Cc (by have:=hC.k0;omega),by omega,λf q H6 Va s6 hqn TN=>?_⟩
    have w6:=Wo.step s6
    have Tw:=s6 _ _ af
    have nq:q≠t:=t8 TN Tw (by intro z;cases z)
    have RJ:Wo t H6 l2=some (.lst (ps.map V.ref)):=w6 _ _ (Wo.in AK TX)
    refine⟨Wo.sub _ _ RJ,?_,N-(j+1),by omega,rfl,Cd,af,ps++[q],row++[f],by rw[List.map_append];rfl,by rw[List.length_append,hps];rfl,?_,?_,?_,?_⟩
    ·rw[List.length_map,hps]
     exact Nat.lt_of_lt_of_le (show j<100 by omega) (by decide)
    ·rw[Wo.az AK]
     refine GP.Paired.snoc (Paired.iW hP λa b z=>cL.off RJ (z.same w6)) ?_
     exact cL.off RJ (cL.of (Wo.in nq TN))
    ·intro g hg
     rcases List.mem_append.mp hg with hg|hg
     ·exact ok g hg
     ·rw[List.mem_singleton.mp hg];exact Va
    ·rw[Wo.az AK]
     exact ai.at (s4.trans w6) (Wo.free hl2)
    ·rw[az AK.symm,Tw]
     simp only[Int.natCast_add,Int.natCast_one,Int.add_assoc]
   ·have ej:j=N:=by omega
    subst ej
    refine .inl ⟨(by show((j:Int)).toNat<=j;omega),?_⟩
    have hlo:Wo t H4 l=some (.lst (rs.map V.ref)):=s4 _ _ Oh.at_
    refine⟨Wo.sub _ _ hlo,?_,j-(i+1),by omega,rfl,hlt,rs++[l2],rows++[row],by rw[List.map_append];rfl,by rw[List.length_append,hrs];rfl,?_,?_,?_,?_,?_,?_⟩
    ·rw[List.length_map,hrs]
     exact Nat.lt_of_lt_of_le (show i<100 by omega) (by decide)
    ·rw[Wo.az HP]
     exact Oh.snoc s4 (Wo.free hl2) (Wo.in AK TX) hP
    ·intro r hr
     rcases List.mem_append.mp hr with hr|hr
     ·exact r1 r hr
     ·rw[List.mem_singleton.mp hr,←Paired.len hP,hps]
    ·intro r hr
     rcases List.mem_append.mp hr with hr|hr
     ·exact r2 r hr
     ·rw[List.mem_singleton.mp hr];exact ok
    ·intro r hr
     rcases List.mem_append.mp hr with hr|hr
     ·exact r3 r hr
     ·rw[List.mem_singleton.mp hr];exact G4
    ·rw[Wo.az HP]
     exact ai.at NG (Wo.free G5)
    ·rw[az HP.symm,Cc,Nat.succ_mul]
     simp only[Int.natCast_add,Int.add_assoc]
  ·have ei:i=N:=by omega
   subst ei
   refine .inl ⟨(by show((i:Int)).toNat<=i;omega),?_⟩
   have WS:i*i<=144:=Nat.le_trans (Nat.mul_le_mul R4 R4) (by decide)
   have P2:sR K H t l i (k+1+((i*i:Nat):Int)) H2:=⟨rs,rows,Oh,⟨by rw[←Oh.len,hrs],r1⟩,r2,r3,s2,Ib⟩
   refine⟨λσ H3=>∃b v5 v6,σ=[some (.ref s),some (.ref t),some (.int (i:Int)),some (.bl b),some (.ref l),v5,v6]/\sR K H t l i (k+1+((i*i:Nat):Int)) H3,?_,?_⟩
   ·refine⟨_,rfl,_,rfl,?_⟩
    generalize hb:decide (V.int (m % 2)=V.int 0)=b
    cases b with
    |false =>
     refine jN ?_
     exact⟨_,_,_,rfl,P2⟩
    |true =>
     refine mh ?_
     refine⟨_,rfl,_,rfl,by omega,by omega,?_⟩
     refine nW (lo:=0) (n:=((i:Int)).toNat) (λa σ H3=>∃v5 v6,σ=[some (.ref s),some (.ref t),some (.int (i:Int)),some (.bl true),some (.ref l),v5,v6]/\sR K H t l i (k+1+((i*i:Nat):Int)) H3) ⟨_,_,rfl,P2⟩ ?_ ?_
     ·rintro a σ H3 ha ⟨v5,v6,rfl,P3⟩
      refine⟨_,rfl,_,rfl,by omega,by omega,?_⟩
      refine nW (lo:=0) (n:=(0+(a:Int)).toNat) (λc σ H4=>∃v5,σ=[some (.ref s),some (.ref t),some (.int (i:Int)),some (.bl true),some (.ref l),v5,some (.int (0+(a:Int)))]/\sR K H t l i (k+1+((i*i:Nat):Int)) H4) ⟨_,rfl,P3⟩ ?_ ?_
      ·rintro c σ H4 hc ⟨v5,rfl,rs,rows,LM,sq,ok,nw,s4,Cc⟩
       have ha':a<rows.length:=by rw[sq.1];omega
       have hc':c<rows.length:=by rw[sq.1];omega
       have ha2:a<rs.length:=by rw[LM.len];exact ha'
       have hc2:c<rs.length:=by rw[LM.len];exact hc'
       obtain⟨UX,Rv,hPa⟩:=LM.row a _ _ (List.getElem?_eq_getElem ha2) (List.getElem?_eq_getElem ha')
       obtain⟨S7,VA,Ua⟩:=LM.row c _ _ (List.getElem?_eq_getElem hc2) (List.getElem?_eq_getElem hc')
       have la:=sq.2 rows[a] (List.getElem_mem ha')
       have lc:=sq.2 rows[c] (List.getElem_mem hc')
       have hac:a<S7.length:=by rw[Paired.len Ua,lc];omega
       have hca:c<UX.length:=by rw[Paired.len hPa,la];omega
       obtain⟨f,ef,hf⟩:=Paired.at Ua (List.getElem?_eq_getElem hac)
       have TV:=Wo.sub _ _ LM.at_
       have Rq:=Wo.sub _ _ VA
       have Ru:=Wo.sub _ _ Rv
       refine⟨_,rfl,_,rfl,l,_,_,.ref rs[c],rfl,rfl,bX.of TV,(by rw[Int.zero_add];exact bO (by rw[List.getElem?_map,List.getElem?_eq_getElem hc2];rfl)),?_⟩
       refine⟨_,rfl,rs[c],_,_,.ref S7[a],rfl,rfl,bX.of Rq,(by rw[Int.zero_add];exact bO (by rw[List.getElem?_map,List.getElem?_eq_getElem hac];rfl)),?_⟩
       refine⟨_,rfl,_,rfl,l,_,_,.ref rs[a],rfl,rfl,bX.of TV,(by rw[Int.zero_add];exact bO (by rw[List.getElem?_map,List.getElem?_eq_getElem ha2];rfl)),?_⟩
       refine⟨_,rfl,rs[a],_,_,c,rfl,rfl,Ru,?_,?_⟩
       ·rw[Int.zero_add]
        unfold B7
        rw[if_pos (by omega),if_pos (by rw[List.length_map];omega)]
        simp
       have QZ:rs[a]≠t:=Wo.ne Rv
       refine⟨_,rfl,rs,rows.set a (rows[a].set c f),?_,⟨by rw[List.length_set];exact sq.1,λr hr=>?_⟩,λr hr g hg=>?_,nw,?_,?_⟩
       ·rw[Wo.az QZ]
        exact LM.put (List.getElem?_eq_getElem ha2) (List.getElem?_eq_getElem ha') Rv hPa hf
       ·rcases List.mem_or_eq_of_mem_set hr with hr|hr
        ·exact sq.2 r hr
        ·rw[hr,List.length_set];exact la
       ·rcases List.mem_or_eq_of_mem_set hr with hr|hr
        ·exact ok r hr g hg
        ·rw[hr]at hg
         rcases List.mem_or_eq_of_mem_set hg with hg|hg
         ·exact ok _ (List.getElem_mem ha') g hg
         ·rw[hg];exact ok _ (List.getElem_mem hc') f (List.mem_of_getElem? ef)
       ·rw[Wo.az QZ]
        exact ai.at s4 (Wo.free (nw _ (List.getElem_mem ha2)))
       ·rw[az QZ.symm];exact Cc
      ·rintro σ H4 ⟨v5,rfl,P4⟩
       exact⟨_,_,rfl,P4⟩
     ·rintro σ H3 ⟨v5,v6,rfl,P3⟩
      exact⟨_,_,_,rfl,P3⟩
   ·rintro σ H3 ⟨b,v5,v6,rfl,rs,rows,LM,sq,ok,nw,s4,Cc⟩
    exact⟨_,rfl,kk l rs H3 rows _ LM (by rw[show((i:Int)).toNat=i by omega];exact sq) ok nw G5 s4 Cc (by omega) (by omega)⟩
end
section
variable{P:Program}{w:World}{K:PySem.W.Frag}{mg:Str->Option Value}{base:Heap}
theorem qO {bZ eX:Addr} {bQ dJ:FuncData} {p:Pm} (T:Txt K mg p) (bC:Dn K mg "check_signs" gb GV bZ bQ) (cI:Dn K mg "are_signs" jE l7 eX dJ) (nL:aW P w K mg base ee 2 eX dJ l7 oZ):aW P w K mg base (sS P w) 3 bZ bQ GV (oF p.bx):=by
 refine bC.fn.LS mV (λvs H Q E h=>?_) (λcdv A outer s H vs Q E hr h=>?_)
 ·obtain⟨x,rfl,_⟩:=h
  rfl
 ·obtain⟨x,rfl,⟨h2,ha⟩,kq,ke⟩:=h
  refine⟨_,(ak (ck (bw iP (ay (bL) rfl T.dG b6 (aa (pv 0) ah)) aj (bH _)) (aq (tR jz T.mO rfl rfl T.jI (aa aI ah))) aY)
   (ak (ck (jk (cT (aD nL (hr.mono (by decide)) rfl cI.m cI.fn.kp cI.b .nil bB (aa (pv 0) ah)))) (aq (tR jz T.mO rfl rfl T.jI (aa aI ah))) aY)
   (aq (ck (bw oK (ay (oS) rfl T.dG b6 (aa (cM (wm rfl) rfl T.Hv FO (aa (pv 0) ah)) ah)) (ay (bL) rfl T.dG b6 (aa (pv 0) ah)) (bH _)) (aq (tR jz T.mO rfl rfl T.jI (aa aI ah))) aY)))),?_⟩
  have hz:x.length<=sizeLine:=Nat.le_trans h2 (by decide)
  refine⟨_,rfl,_,_,rfl,⟨hz,rfl⟩,rfl,_,rfl,?_⟩
  refine jo (λz=>?_) λhne=>?_
  ·refine⟨by show 1<=sizeLine;decide,ke (λS=>?_) H (ai.refl H)⟩
   have z':((x.cps.size:Nat):Int)=0:=z
   have:=S.1
   omega
  refine⟨_,rfl,x,rfl,Nat.le_trans h2 (by decide),λH2 s2=>?_⟩
  refine⟨_,rfl,?_⟩
  cases e:x.cps.toList.all fR with
  |false =>
   refine B9 ?_
   refine⟨by show 1<=sizeLine;decide,ke (λS=>?_) H2 s2⟩
   rw[List.all_eq_true.mpr S.2.2.1]at e
   cases e
  |true =>
   refine jK ?_
   refine⟨_,rfl,x,rfl,Nat.lt_of_le_of_lt (Nat.succ_le_succ h2) (by decide),λq hq=>?_⟩
   refine⟨q,_,rfl,af,_,rfl,_,_,rfl,⟨hz,rfl⟩,rfl,_,rfl,?_⟩
   refine pF (λz=>?_) λz=>?_
   ·refine⟨by show 1<=sizeLine;decide,ke (λS=>z ?_) _ (s2.trans (ai.upd hq))⟩
    rw[vQ S.2.2.2]
    rfl
   ·refine kq ⟨?_,h2,List.all_eq_true.mp e,Dc ?_⟩ _ (s2.trans (ai.upd hq))
    ·have hne':¬((x.cps.size:Nat):Int)=0:=hne
     omega
    ·have z':(((met (gK x) x.cps.size).length:Nat):Int)=((x.cps.size:Nat):Int):=z
     omega
end
section
variable{P:Program}{w:World}{K:PySem.W.Frag}{mg:Str->Option Value}{base:Heap}
theorem pB {aA:Addr} {aO:FuncData} {p:Pm} (T:Txt K mg p) (aM:Dm K "__init__" "NoText.__init__" bF DP aA aO)  :aW P w K mg base (sS P w) 1 aA aO DP (lu p.av):=by
 refine aM.fn.LS j6 (λvs H Q E h=>?_) (λcdv A outer s H vs Q E hr h=>?_)
 ·obtain⟨e,i,rfl,_⟩:=h
  rfl
 ·obtain⟨e,i,rfl,he,hi,k⟩:=h
  obtain⟨fI,xc⟩:=T.vA
  refine⟨_,(ak (gR (BQ T.oE rfl T.kY (aa (pv 0) (aa (BP (sN aI (sN (EJ (pv 1)) EE))) ah))))
   (aq (BN (pv 0) (pv 1) rfl))),?_⟩
  have li:=vR hi
  have ti:=PyProof.Rows.int_text_len_1921 li
  have l0:(Str.empty++Str.ofString "not written as it should be: row ").length<=50:=by decide
  have l1:=Cn l0 ti
  refine⟨_,rfl,_,rfl,Nat.le_trans l0 (by decide),_,rfl,_,rfl,li,_,rfl,Nat.le_trans l1 (by decide),Nat.le_trans l1 (by decide),?_⟩
  refine⟨e,p.av,fI,none,_,rfl,he,xc,?_⟩
  refine⟨_,rfl,_,rfl,e,p.av,rfl,T.vz,T.kX,.inl ⟨he,λdx hdx=>?_⟩⟩
  have ne:dx≠e:=λz=>by rw[z,he]at hdx;cases hdx
  refine k dx _ (λb u hb A0=>?_) hdx (by rw[az (Ne.symm ne),af]) af
  have nb:b≠dx:=λz=>by rw[z,hdx]at hb;cases hb
  rw[az nb,az A0,az nb]
  exact hb
theorem ni {aA:Addr} {aO:FuncData} {p:Pm} (T:Txt K mg p) (aM:Dm K "__init__" "NoText.__init__" bF DP aA aO)  :z5 P w K mg base (sS P w) 1 aA aO DP (vJ p.av):=by
 refine aM.fn.okN j6 (λvs H Q E h=>?_) (λcdv A outer s H vs Q E hr h=>?_)
 ·obtain⟨e,i,rfl,_⟩:=h
  rfl
 ·obtain⟨e,i,rfl,he,hi,k⟩:=h
  obtain⟨fI,xc⟩:=T.vA
  refine⟨_,(ak (gR (BQ T.oE rfl T.kY (aa (pv 0) (aa (BP (sN aI (sN (EJ (pv 1)) EE))) ah))))
   (aq (BN (pv 0) (pv 1) rfl))),?_⟩
  have li:=vR hi
  have ti:=PyProof.Rows.int_text_len_1921 li
  have l0:(Str.empty++Str.ofString "not written as it should be: row ").length<=50:=by decide
  have l1:=Cn l0 ti
  refine⟨_,rfl,_,rfl,Nat.le_trans l0 (by decide),_,rfl,_,rfl,li,_,rfl,Nat.le_trans l1 (by decide),Nat.le_trans l1 (by decide),?_⟩
  refine⟨e,p.av,fI,none,_,rfl,he,xc,?_⟩
  refine⟨_,rfl,_,rfl,e,p.av,rfl,T.vz,T.kX,.inl ⟨he,λdx hdx=>?_⟩⟩
  have ne:dx≠e:=λz=>by rw[z,he]at hdx;cases hdx
  refine k dx _ (λb u hb A0=>?_) hdx (by rw[az (Ne.symm ne),af]) af
  have nb:b≠dx:=λz=>by rw[z,hdx]at hb;cases hb
  rw[az nb,az A0,az nb]
  exact hb
end
section
open PySem.NumText
variable{P:Program}{w:World}{K:PySem.W.Frag}{mg:Str->Option Value}{base:Heap}
theorem p5 {dS:Addr} {dw:FuncData} {p:Pm} (T:Txt K mg p) (bM:Dn K mg "written_number" gO ["number"] dS dw)  :aW P w K mg base ee 1 dS dw ["number"] HF:=by
 refine bM.fn.ok i0 (λvs H Q E h=>?_) (λcdv A outer s H vs Q E hr h=>?_)
 ·obtain⟨n,rfl,_⟩:=h
  rfl
 ·obtain⟨n,rfl,h0,h1,k⟩:=h
  have hz:n.natAbs<10 ^ 60:=by omega
  obtain⟨m0,hm0,_⟩:=qH h0
  refine⟨_,(ak (aE (i:=1) i0.nd rfl (Or.inl rfl) (fk ah))
   (ak (aE (i:=2) i0.nd rfl (Or.inl rfl) (aB qL aj aj))
   (ak (tP PassesOwn.never (bw HN (pv 0) (pv 2) (bH _)) gf)
   (ak (gR (gD PySem.F.plainAttrs_list PySem.F.slot_list_append PySem.F.type_list_append jZ (pv 1) (aa (cM (fX) rfl T.lq jt (aa (pv 0) ah)) ah)))
   (ak (gR (JE PySem.F.plainAttrs_list PySem.F.slot_list_reverse PySem.F.type_list_reverse AM (pv 1)))
   (aq (aR (gD PySem.F.plainAttrs_str PySem.F.slot_str_join PySem.F.type_str_join (iz rfl) aI (aa (pv 1) ah))))))))),?_⟩
  refine⟨by show 0<=sizeLine;decide,λl hl=>?_⟩
  refine⟨_,_,rfl,rfl,⟨by decide,by decide,by decide⟩,?_⟩
  refine⟨λm σ H'=>σ=[some (.int n),some (.ref l),some (.int (10 ^ 60))]/\H'=upd H l (.lst []),⟨0,rfl,rfl⟩,?_⟩
  rintro m σ H' ⟨rfl,rfl⟩
  refine⟨_,rfl,_,rfl,_,_,rfl,rfl,_,rfl,?_⟩
  refine fQ (λz=>absurd z (by omega)) λ_=>?_
  refine⟨_,rfl,.inl ⟨rfl,_,bX.of af⟩,_,rfl,n,rfl,lY hz,l,_,_,rfl,rfl,af,by decide,?_⟩
  refine⟨_,rfl,.inl ⟨rfl,_,bX.of af⟩,l,_,rfl,rfl,af,?_⟩
  refine⟨rfl,_,rfl,_,l,[sI n],rfl,rfl,.inl (bX.of af),by decide,λz hz'=>?_,by show 1<=2000;decide,?_⟩
  ·rw[List.mem_singleton.mp hz',hm0]
   exact Nat.le_trans (o6 m0 (by omega)).2 (by decide)
  ·exact k _ (ai.at (ai.at (ai.upd hl) hl) hl)
theorem n9 {bf jc dS:Addr} {aX gW dw:FuncData} {p:Pm} (T:Txt K mg p) (aG:Dn K mg "written_fraction" cW l8 bf aX) (fH:Dn K mg "lowest" mW l8 jc gW) (uQ:aW P w K mg base ee 2 jc gW l8 (Ei K)) (bM:Dn K mg "written_number" gO ["number"] dS dw) (lK:aW P w K mg base ee 1 dS dw ["number"] HF):aW P w K mg base ee 4 bf aX l8 (Bs K):=by
 refine aG.fn.ok fq (λvs H Q E h=>?_) (λcdv A outer s H vs Q E hr h=>?_)
 ·obtain⟨p,f,rfl,_⟩:=h
  rfl
 ·obtain⟨p,f,rfl,hf,ho,k⟩:=h
  have g:=k6 ho
  obtain⟨l1,l2,l3⟩:=Ep ho
  refine⟨_,(ak (aE (i:=1) fq.nd rfl (Or.inl rfl) (aD uQ (hr.mono (by decide)) rfl fH.m fH.fn.kp fH.b .nil bB (aa (pv 0) ah)))
   (ak (aE (i:=2) fq.nd rfl (Or.inl rfl) (kg (bw EM (aV bW (pv 1) aj (λ_ _=>rfl)) aj (bH _)) (dI (v:=.str (Str.ofString "-")) rfl T.nE ⟨_,rfl⟩) aI))
   (ak (aE (i:=3) fq.nd rfl (Or.inl rfl) (kg (bw tV (aV bW (pv 1) aj (λ_ _=>rfl)) aj (bH _)) (aB bK (dI (v:=.str (Str.ofString "/")) rfl T.Fp ⟨_,rfl⟩) (aD lK (hr.mono (by decide)) rfl bM.m bM.fn.kp bM.b .nil bB (aa (aV bW (pv 1) aj (λ_ _=>rfl)) ah))) aI))
   (aq (aR (aB bK (aB bK (pv 2) (aD lK (hr.mono (by decide)) rfl bM.m bM.fn.kp bM.b .nil bB (aa (ay (qp) rfl T.Bk xS (aa (aV bW (pv 1) aj (λ_ _=>rfl)) ah)) ah))) (pv 3))))))),?_⟩
  refine⟨_,rfl,p,f,rfl,hf,by have:=ho.pos;omega,uh ho.BE,λq hq=>?_⟩
  generalize K4:upd H q (.tup [.int (aZ f).1,.int (aZ f).2])=H1
  have s1:ai H H1:=by rw[←K4];exact ai.upd hq
  have h1:cL K H1 q [.int (aZ f).1,.int (aZ f).2]:=by rw[←K4];exact cL.of af
  have ea:(if(aZ f).1<0 then -(aZ f).1 else(aZ f).1)=((aZ f).1.natAbs:Int):=by split<;>omega
  have c1:=g.El
  have c2:=g.BE
  have c3:=g.pos
  refine⟨_,rfl,_,_,_,_,rfl,rfl,h1,rfl,_,_,rfl,rfl,_,rfl,?_⟩
  refine Vn ?_
  have eh:(if(decide ((aZ f).1<0))=true then V.str (Str.ofString "-")else V.str (Str.ofString ""))=V.str (if(aZ f).1<0 then(⟨#[45]⟩:Str)else⟨#[]⟩):=by
   by_cases z:(aZ f).1<0
   ·rw[if_pos z,if_pos (decide_eq_true z)];rfl
   ·rw[if_neg z,if_neg (by rw[decide_eq_false z];exact Bool.false_ne_true)];rfl
  rw[eh]
  refine⟨_,rfl,_,_,_,_,rfl,rfl,h1,rfl,_,_,rfl,rfl,_,rfl,?_⟩
  unfold sW at k
  refine fQ (λhb=>?_) λhb=>?_
  ·rw[if_pos hb]at k
   refine⟨_,rfl,_,_,_,_,rfl,rfl,h1,rfl,_,rfl,by omega,by omega,λH2 s2=>?_⟩
   refine⟨_,_,rfl,rfl,by show 1+_<=sizeLine;exact Nat.le_trans (Nat.add_le_add_left l3 1) (by decide),?_⟩
   have h2:=ai.tup s2 h1
   refine⟨_,rfl,_,rfl,_,_,_,_,rfl,rfl,h2,rfl,_,rfl,?_⟩
   rw[ea]
   refine⟨_,rfl,by omega,by omega,λH3 s3=>?_⟩
   refine⟨_,_,rfl,rfl,Nat.le_trans (Nat.add_le_add l1 l2) (by decide),_,rfl,_,_,rfl,rfl,?_,k _ ((s1.trans s2).trans s3)⟩
   show _+_<=sizeLine
   have e1:=dX (if(aZ f).1<0 then(⟨#[45]⟩:Str)else⟨#[]⟩) (sI ((aZ f).1.natAbs:Int))
   have e2:=dX (⟨#[47]⟩:Str) (sI (aZ f).2)
   have e3:(⟨#[47]⟩:Str).cps.size=1:=rfl
   exact Nat.le_trans (show _+_<=200 from by
    have a1:(if(aZ f).1<0 then(⟨#[45]⟩:Str)else⟨#[]⟩).cps.size<=1:=l1
    have a2:(sI ((aZ f).1.natAbs:Int)).cps.size<=60:=l2
    have a3:(sI (aZ f).2).cps.size<=60:=l3
    show(_:Str).cps.size+(_:Str).cps.size<=200
    rw[e1]
    exact Nat.le_trans (Nat.add_le_add_left (show _<=61 from by show((⟨#[47]⟩:Str)++sI (aZ f).2).cps.size<=61;omega) _) (by omega)) (by decide)
  ·rw[if_neg hb]at k
   refine⟨_,rfl,_,rfl,_,_,_,_,rfl,rfl,h1,rfl,_,rfl,?_⟩
   rw[ea]
   refine⟨_,rfl,by omega,by omega,λH3 s3=>?_⟩
   refine⟨_,_,rfl,rfl,Nat.le_trans (Nat.add_le_add l1 l2) (by decide),_,rfl,_,_,rfl,rfl,?_,k _ (s1.trans s3)⟩
   have e1:=dX (if(aZ f).1<0 then(⟨#[45]⟩:Str)else⟨#[]⟩) (sI ((aZ f).1.natAbs:Int))
   have a1:(if(aZ f).1<0 then(⟨#[45]⟩:Str)else⟨#[]⟩).cps.size<=1:=l1
   have a2:(sI ((aZ f).1.natAbs:Int)).cps.size<=60:=l2
   exact Nat.le_trans (show _+0<=200 from by show(_:Str).cps.size+0<=200;rw[e1];omega) (by decide)
theorem ve {ia:Addr} {gk:FuncData} {p:Pm} (T:Txt K mg p) (ff:Dn K mg "is_figures" jX l7 ia gk)  :aW P w K mg base ee 1 ia gk l7 Ek:=by
 refine ff.fn.ok uW (λvs H Q E h=>?_) (λcdv A outer s H vs Q E hr h=>?_)
 ·obtain⟨x,rfl,_⟩:=h
  rfl
 ·obtain⟨x,rfl,hx,k⟩:=h
  have kf:jh x=false->Q (.bl false) H:=λe=>by have z:=k H (ai.refl H);rw[e]at z;exact z
  refine⟨_,(aq (aR (m7 (yS BU BU aj (ay (bL) rfl T.dG b6 (aa (pv 0) ah)) (dI (v:=.int 60) rfl T.uw ⟨_,rfl⟩)) (qJ (ay (kM rfl) rfl T.Bj xR (aa (gv (N:=GW) rfl (λ_=>⟨[],cC.plain (by decide +kernel) rfl (by decide +kernel) (by decide +kernel)⟩) (AB (pv 0)) (λ_ _ _ _ _ _ _=>(bD (i:=0) (show(GW:List Str).Nodup by decide +kernel) rfl (Or.inl rfl))) (λ_ _ _ _ _ _ _=>(lU CW (pv 0) (dI (v:=.str (Str.ofString "0123456789")) rfl T.Dv ⟨_,rfl⟩) (by with_unfolding_all rfl)))) ah)))))),?_⟩
  refine⟨_,rfl,_,_,rfl,⟨Nat.le_trans hx (by decide),rfl⟩,_,_,rfl,rfl,_,rfl,?_⟩
  refine fQ (λz1=>?_) λz1=>?_
  ·have UC:1<=x.cps.size:=by have z:(1:Int)<=((x.cps.size:Nat):Int):=z1;omega
   refine⟨_,_,rfl,rfl,_,rfl,?_⟩
   refine fQ (λz2=>?_) λz2=>?_
   ·have UB:x.cps.size<=60:=by have z:((x.cps.size:Nat):Int)<=60:=z2;omega
    refine⟨_,rfl,x,rfl,λl hl=>?_⟩
    refine⟨λi m ys H2=>m=x.cps.size-i/\i<=x.cps.size/\ai H H2/\H2 l=some (.lst ys)/\ys=((x.cps.toList.take i).map Ky).map V.bl,⟨x.cps.size,rfl,Nat.zero_le _,ai.upd hl,af,rfl⟩,?_⟩
    rintro i m ys H2 ⟨rfl,hi,s2,hl2,rfl⟩
    by_cases hlt:i<x.cps.size
    ·refine .inr ⟨hlt,?_⟩
     rintro y H3 ⟨rfl,c,ec,rfl⟩
     refine⟨Kp.rep _ _,?_⟩
     refine⟨_,rfl,_,_,rfl,rfl,?_⟩
     rw[StrLaws.found_one,M0]
     refine⟨hl2,?_,x.cps.size-(i+1),by omega,rfl,hlt,ai.at s2 hl,af,?_⟩
     ·rw[List.length_map,List.length_map,List.length_take]
      exact Nat.lt_of_le_of_lt (show min i x.cps.toList.length<=1000 by omega) (by decide)
     ·rw[take_snoc (x:=c) (by rw[Array.getElem?_toList];exact ec),List.map_append,List.map_append]
      rfl
    ·have ei:i=x.cps.size:=by omega
     subst ei
     refine .inl ⟨Nat.le_refl _,?_⟩
     rw[List.take_of_length_le (by rw[Array.length_toList];exact Nat.le_refl _)]at hl2
     refine⟨l,_,rfl,bX.of hl2,?_⟩
     have e:(x.cps.toList.map Ky).all id=jh x:=by
      unfold jh
      rw[List.all_map,decide_eq_true UC,decide_eq_true UB]
      rfl
     rw[e]
     exact k H2 s2
   ·exact kf (by unfold jh;rw[decide_eq_false (show ¬x.cps.size<=60 from λz=>z2 (by show((x.cps.size:Nat):Int)<=60;omega)),Bool.and_false,Bool.false_and])
  ·refine⟨_,rfl,?_⟩
   exact kf (by unfold jh;rw[decide_eq_false (show ¬ 1<=x.cps.size from λz=>z1 (by show(1:Int)<=((x.cps.size:Nat):Int);omega)),Bool.false_and,Bool.false_and])
end
section
open PySem.NumText
variable{P:Program}{w:World}{K:PySem.W.Frag}{mg:Str->Option Value}{base:Heap}
theorem ng {cN bf:Addr} {cD aX:FuncData} {p:Pm} (T:Txt K mg p) (bh:Dn K mg "written_fractions" fz Mh cN cD) (aG:Dn K mg "written_fraction" cW l8 bf aX) (d8:aW P w K mg base ee 4 bf aX l8 (Bs K)):aW P w K mg base ee 5 cN cD Mh (Ef K):=by
 refine bh.fn.ok mT (λvs H Q E h=>?_) (λcdv A outer s H vs Q E hr h=>?_)
 ·obtain⟨c,fs,rfl,_⟩:=h
  rfl
 ·obtain⟨c,fs,rfl,⟨ps,hc,hp⟩,ho,hz,k⟩:=h
  have WR:=Paired.len hp
  refine⟨_,(aq (aR (gD PySem.F.plainAttrs_str PySem.F.slot_str_join PySem.F.type_str_join (iz rfl) (dI (v:=.str (Str.ofString " ")) rfl T.vZ ⟨_,rfl⟩) (aa (gv (N:=l8) rfl (λ_=>⟨[],cC.plain (by decide +kernel) rfl (by decide +kernel) (by decide +kernel)⟩) (tT (pv 0)) (λ_ _ _ _ _ _ _=>(bD (i:=0) (show(l8:List Str).Nodup by decide +kernel) rfl (Or.inl rfl))) (λ_ _ _ _ _ _ _=>(aD d8 (hr.mono (by decide)) rfl aG.m aG.fn.kp aG.b .nil bB (aa (pv 0) ah)))) ah)))),?_⟩
  refine⟨rfl,_,rfl,c,_,rfl,hc,λl hl=>?_⟩
  refine qZ fs.length (λi=>.str (sW (fs.getD i (0,1)))) hl (Nat.lt_of_le_of_lt hz (by decide)) (λi H1 s1 hi=>?_) (λH1 s1=>⟨_,ai.cp s1 hc,by rw[List.length_map];omega⟩) (λi x H1 H3 R s1 hi hy hR=>?_) λH' s' hl'=>?_
  ·exact⟨_,_,ai.cp s1 hc,by rw[List.getElem?_map,List.getElem?_eq_getElem (show i<ps.length by omega)];rfl⟩
  ·obtain⟨rfl,hx⟩:=hy
   have ex:=hx _ (ai.cp s1 hc)
   have Mw:i<ps.length:=by omega
   rw[List.getElem?_map,List.getElem?_eq_getElem Mw]at ex
   cases ex
   obtain⟨f,ef,hf⟩:=Paired.at hp (List.getElem?_eq_getElem Mw)
   refine⟨Kp.rep _ _,?_⟩
   have eg:fs.getD i (0,1)=f:=by rw[List.getD_eq_getElem?_getD,ef];rfl
   rw[eg]at hR
   exact⟨_,rfl,ps[i],f,rfl,hf.same s1,ho f (List.mem_of_getElem? ef),hR⟩
  ·refine⟨_,l,fs.map sW,rfl,rfl,.inl (bX.of ?_),by decide,λz hz'=>?_,by rw[List.length_map];omega,k _ s'⟩
   ·rw[hl',tO (λf=>V.str (sW f)) (0,1) fs,List.map_map]
    rfl
   ·obtain⟨f,hf,rfl⟩:=List.mem_map.mp hz'
    exact Nat.le_trans (mY (ho f hf)) (by decide)
theorem qM {eG ia bf:Addr} {dO gk aX:FuncData} {p:Pm} (T:Txt K mg p) (cQ:Dn K mg "read_fraction" iC l7 eG dO) (ff:Dn K mg "is_figures" jX l7 ia gk) (yj:aW P w K mg base ee 1 ia gk l7 Ek) (aG:Dn K mg "written_fraction" cW l8 bf aX) (d8:aW P w K mg base ee 4 bf aX l8 (Bs K)):aW P w K mg base ee 5 eG dO l7 (By K):=by
 refine cQ.fn.ok dN (λvs H Q E h=>?_) (λcdv A outer s H vs Q E hr h=>?_)
 ·obtain⟨x,rfl,_⟩:=h
  rfl
 ·obtain⟨x,rfl,hx,kq,kn⟩:=h
  obtain⟨KR,Ny⟩:=rF x 47
  unfold oJ at kq kn
  obtain⟨p0,pt,hps⟩:∃p0 pt,Txt.split x ⟨#[47]⟩=p0::pt:=List.exists_cons_of_ne_nil (yH x 47)
  rw[hps]at KR Ny kq kn
  have z0:=KR p0 List.mem_cons_self
  refine⟨_,(ak (aE (i:=1) dN.nd rfl (Or.inl rfl) (gD PySem.F.plainAttrs_str PySem.F.slot_str_split PySem.F.type_str_split lE (pv 0) (aa (dI (v:=.str (Str.ofString "/")) rfl T.Fp ⟨_,rfl⟩) ah)))
   (ak (aE (i:=2) dN.nd rfl (Or.inl rfl) (gD PySem.F.plainAttrs_str PySem.F.slot_str_startswith PySem.F.type_str_startswith C5 (pv 0) (aa (dI (v:=.str (Str.ofString "-")) rfl T.nE ⟨_,rfl⟩) ah)))
   (b4 (lT (kg (cT (pv 2)) (lB Jp (aV bG (pv 1) aj (λ_ _=>rfl)) (nU aj) nV) (aV bG (pv 1) aj (λ_ _=>rfl))) (o7 (pv 1) aj set_list))
   (ak (ck (PW.pt (m6 (bw tV (ay (bL) rfl T.dG b6 (aa (pv 1) ah)) aj (bH _)) (kW (jk (cT (ay (kM rfl) rfl T.Bj xR (aa (gv (N:=["part"]) rfl (λ_=>⟨[],cC.plain (by decide +kernel) rfl (by decide +kernel) (by decide +kernel)⟩) (kJ (pv 1)) (λ_ _ _ _ _ _ _=>(bD (i:=0) (show(["part"]:List Str).Nodup by decide +kernel) rfl (Or.inl rfl))) (λ_ _ _ _ _ _ _=>(aD yj (hr.mono (by decide)) rfl ff.m ff.fn.kp ff.b .nil bB (aa (pv 0) ah)))) ah))))))) (aq (aR xh)) aY)
   (ak (aE (i:=3) dN.nd rfl (Or.inl rfl) (cM (wo) rfl T.Bh xQ (aa (aV bG (pv 1) aj (λ_ _=>rfl)) ah)))
   (b4 (aE (i:=4) dN.nd rfl (Or.inl rfl) (kg (bw iP (ay (bL) rfl T.dG b6 (aa (pv 1) ah)) aj (bH _)) (cM (wo) rfl T.Bh xQ (aa (aV bG (pv 1) aj (λ_ _=>rfl)) ah)) aj))
   (ak (ck (bw EM (pv 4) aj (bH _)) (aq (aR xh)) aY)
   (b4 (aE (i:=5) dN.nd rfl (Or.inl rfl) (cU (aa (kg (cT (pv 2)) (EH Ac (pv 3)) (pv 3)) (aa (pv 4) ah))))
   (aq (aR (kg (bw iP (aD d8 (hr.mono (by decide)) rfl aG.m aG.fn.kp aG.b .nil bB (aa (pv 5) ah)) (pv 0) (bH _)) (pv 5) xh))))))))))),?_⟩
  refine⟨_,rfl,rfl,x,47,rfl,rfl,Nat.le_trans hx (by decide),λl hl=>?_⟩
  rw[hps]
  refine⟨_,rfl,rfl,x,⟨#[45]⟩,rfl,rfl,?_⟩
  generalize Txt.startswith x ⟨#[45]⟩=b at kq kn ⊢
  refine⟨λσ H'=>σ=[some (.str x),some (.ref l),some (.bl b),none,none,none]/\ai H H'/\H' l=some (.lst ((hdS b (p0::pt)::pt).map V.str)),?_,?_⟩
  ·refine⟨_,rfl,_,rfl,?_⟩
   have h0:upd H l (.lst ((p0::pt).map V.str)) l=some (.lst ((p0::pt).map V.str)):=af
   have ix:∀n:Nat,B7 (n+1) 0=some 0:=λn=>by unfold B7;rw[if_pos (by omega),if_pos (by omega)];rfl
   cases b with
   |true=>exact mh ⟨_,rfl,l,_,_,.str p0,rfl,rfl,bX.of h0,bO (j:=0) rfl,1,rfl,p0,rfl,Nat.le_trans z0 (Nat.le_trans hx (by decide)),_,rfl,l,_,0,0,rfl,rfl,h0,ix _,rfl,ai.at (ai.upd hl) hl,af⟩
   |false=>exact jN ⟨_,rfl,l,_,_,.str p0,rfl,rfl,bX.of h0,bO (j:=0) rfl,_,rfl,l,_,0,0,rfl,rfl,h0,ix _,rfl,ai.at (ai.upd hl) hl,af⟩
  rintro σ H1 ⟨rfl,s1,hl1⟩
  rw[show(p0::pt).tail=pt from rfl]at kq kn
  have zh:(hdS b (p0::pt)).cps.size<=2000:=by
   unfold hdS
   cases b with
   |true =>
    by_cases e:(1:Int)<=(p0.cps.size:Int)
    ·have:=yL (x:=p0) (k:=1) (by decide) e
     rw[if_pos rfl]
     show(Txt.slice p0 (some 1) none).cps.size<=_
     rw[←Array.length_toList,this,List.length_drop,Array.length_toList]
     omega
    ·have e0:p0.cps.size=0:=by omega
     have e1:p0=⟨#[]⟩:=wQ (Array.eq_empty_of_size_eq_zero e0)
     rw[if_pos rfl,e1]
     show(Txt.slice ⟨#[]⟩ (some 1) none).cps.size<=2000
     decide +kernel
   |false=>rw[if_neg Bool.false_ne_true];exact Nat.le_trans z0 hx
  generalize hdS b (p0::pt)=q0 at kq kn hl1 zh
  have zq:∀r∈q0::pt,r.cps.size<=2000:=λr hr=>by
   rcases List.mem_cons.mp hr with rfl|hr
   ·exact zh
   ·exact Nat.le_trans (KR r (List.mem_cons_of_mem _ hr)) hx
  have zn:(q0::pt).length<=2001:=by
   have:(p0::pt).length<=x.cps.size+1:=Ny
   simp only[List.length_cons]at this ⊢
   omega
  have hne:(q0::pt).length≠0:=by simp
  generalize q0::pt=qs at kq kn hl1 zq zn hne
  have Q6:(qs.map V.str).length=qs.length:=List.length_map ..
  refine⟨_,rfl,_,_,rfl,.inl ⟨_,bX.of hl1,rfl⟩,_,_,rfl,rfl,_,rfl,?_⟩
  refine fQ (λz=>?_) λz=>?_
  ·exact kn (Ey (by have z':(2:Int)<(((qs.map V.str).length:Nat):Int):=z;omega)) H1 s1
  have h2:¬qs.length>2:=λz'=>z (by show(2:Int)<(((qs.map V.str).length:Nat):Int);omega)
  refine⟨_,rfl,l,rfl,⟨_,bX.of hl1⟩,λl2 hl2=>?_⟩
  refine qZ qs.length (λi=>.bl (jh (qs.getD i ⟨#[]⟩))) hl2 (Nat.lt_of_le_of_lt zn (by decide)) (λi H2 s2 hi=>?_) (λH2 s2=>⟨_,bX.of (s2 _ _ hl1),by rw[Q6];omega⟩) (λi y H2 H3 R s2 hi hy hR=>?_) λH2 s2 hm=>?_
  ·exact⟨_,_,bX.of (s2 _ _ hl1),by rw[List.getElem?_map,List.getElem?_eq_getElem hi];rfl⟩
  ·obtain⟨rfl,hy⟩:=hy
   have ey:=hy _ (bX.of (s2 _ _ hl1))
   rw[List.getElem?_map,List.getElem?_eq_getElem hi]at ey
   cases ey
   refine⟨Kp.rep _ _,?_⟩
   have eg:qs.getD i ⟨#[]⟩=qs[i]:=by rw[List.getD_eq_getElem?_getD,List.getElem?_eq_getElem hi];rfl
   rw[eg]at hR
   exact⟨_,rfl,qs[i],rfl,zq _ (List.getElem_mem hi),hR⟩
  have s12:=s1.trans s2
  have hlb:=s2 _ _ hl1
  refine⟨l2,qs.map jh,rfl,bX.of ?_,_,rfl,?_⟩
  ·rw[hm,tO (λr=>V.bl (jh r)) ⟨#[]⟩ qs,List.map_map]
   rfl
  rw[show(qs.map jh).all id=qs.all jh by rw[List.all_map];rfl]
  cases hf:qs.all jh with
  |false=>exact B9 (kn (Gx hf) H2 s12)
  |true =>
   refine jK ?_
   have NU:=List.all_eq_true.mp hf
   have e0:qs[0]? =some (qs.headD ⟨#[]⟩):=by
    cases qs with
    |nil=>exact absurd rfl hne
    |cons a l=>rfl
   obtain⟨i1,i2⟩:=zL (NU _ (List.mem_of_getElem? e0))
   refine⟨_,rfl,l,_,_,.str (qs.headD ⟨#[]⟩),rfl,rfl,bX.of hlb,bO (j:=0) (by rw[List.getElem?_map,e0];rfl),_,_,rfl,i1,i2,?_⟩
   refine⟨λσ H'=>σ=[some (.str x),some (.ref l),some (.bl b),some (.int (valN (qs.headD ⟨#[]⟩))),some (.int (Ad qs)),none]/\H'=H2,?_,?_⟩
   ·refine⟨_,rfl,_,_,rfl,.inl ⟨_,bX.of hlb,rfl⟩,rfl,_,rfl,?_⟩
    refine jo (λz=>?_) λz=>?_
    ·have z':qs.length=2:=by have SQ:(((qs.map V.str).length:Nat):Int)=2:=z;omega
     have e1:qs[1]? =some (qs.getD 1 ⟨#[]⟩):=by rw[List.getD_eq_getElem?_getD,List.getElem?_eq_getElem (show 1<qs.length by omega)];rfl
     obtain⟨j1,j2⟩:=zL (NU _ (List.mem_of_getElem? e1))
     rw[Gf z']
     exact⟨_,rfl,l,_,_,.str (qs.getD 1 ⟨#[]⟩),rfl,rfl,bX.of hlb,bO (j:=1) (by rw[List.getElem?_map,e1];rfl),_,_,rfl,j1,j2,rfl,rfl⟩
    ·rw[Gg λz'=>z (by show(((qs.map V.str).length:Nat):Int)=2;omega)]
     exact⟨rfl,rfl⟩
   ·rintro σ H' ⟨rfl,rfl⟩
    refine⟨_,rfl,_,_,rfl,rfl,_,rfl,?_⟩
    refine fQ (λz=>kn (Gw z) _ s12) λh3=>?_
    refine⟨λσ H3=>∃q,σ=[some (.str x),some (.ref l),some (.bl b),some (.int (valN (qs.headD ⟨#[]⟩))),some (.int (Ad qs)),some (.ref q)]/\ai H' H3/\H' q=none/\H3 q=some (.tup [.int (A5 b qs).1,.int (A5 b qs).2]),?_,?_⟩
    ·refine⟨_,rfl,_,rfl,?_⟩
     cases b with
     |true=>exact mh ⟨_,rfl,_,rfl,_,rfl,by show 2<=sizeLine;decide,λq hq=>⟨q,rfl,ai.upd hq,hq,af⟩⟩
     |false=>exact jN ⟨_,rfl,_,rfl,by show 2<=sizeLine;decide,λq hq=>⟨q,rfl,ai.upd hq,hq,af⟩⟩
    ·rintro σ H3 ⟨q,rfl,s3,hqn,NR⟩
     refine⟨_,rfl,q,A5 b qs,rfl,cL.of NR,Fq hne hf h3,λH4 s4=>?_⟩
     refine⟨_,rfl,rfl,_,rfl,?_⟩
     by_cases e:sW (A5 b qs)=x
     ·rw[decide_eq_true (show V.str (sW (A5 b qs))=V.str x by rw[e])]
      exact mh ⟨_,rfl,kq _ (tM h2 hf h3 e) q H4 ((s12.trans s3).trans s4) (ai.free s12 hqn) (s4 _ _ NR)⟩
     ·rw[decide_eq_false (show ¬V.str (sW (A5 b qs))=V.str x from λz=>e (V.str.inj z))]
      exact jN (kn (Jy e) H4 ((s12.trans s3).trans s4))
theorem pZ {dR cN:Addr} {dm cD:FuncData} {p:Pm} (T:Txt K mg p) (cG:Dn K mg "written_prices" gM ["prices"] dR dm) (bh:Dn K mg "written_fractions" fz Mh cN cD) (jQ:aW P w K mg base ee 5 cN cD Mh (Ef K)):aW P w K mg base ee 6 dR dm ["prices"] (Hz K p.au):=by
 refine cG.fn.ok kC (λvs H Q E h=>?_) (λcdv A outer s H vs Q E hr h=>?_)
 ·obtain⟨x,sg,rows,fo,fm,rfl,_⟩:=h
  rfl
 ·obtain⟨x,sg,rows,fo,fm,rfl,hP,h12,ho,hfo,hfm,k⟩:=h
  obtain⟨sig,n8,ok,pY,pq,pos,big,dx,Pp,o,m,d,kvs,hx,⟨qs,hq,hp⟩,RO,RQ,_⟩:=hP
  have WQ:=Paired.len hp
  have hn:rows.length<=12:=by rw[n8.1];exact h12
  refine⟨_,(ak (aE (i:=1) kC.nd rfl (Or.inl rfl) (fk (aa (fP (pv 0) rfl) ah)))
   (ak (gR (gD PySem.F.plainAttrs_list PySem.F.slot_list_extend PySem.F.type_list_extend vP (pv 1) (aa (gv (N:=l9) rfl (λ_=>⟨[],cC.plain (by decide +kernel) rfl (by decide +kernel) (by decide +kernel)⟩) (tT (fP (pv 0) rfl)) (λ_ _ _ _ _ _ _=>(bD (i:=0) (show(l9:List Str).Nodup by decide +kernel) rfl (Or.inl rfl))) (λ_ _ _ _ _ _ _=>(aD jQ (hr.mono (by decide)) rfl bh.m bh.fn.kp bh.b .nil bB (aa (pv 0) ah)))) ah)))
   (ak (gR (gD PySem.F.plainAttrs_list PySem.F.slot_list_append PySem.F.type_list_append jZ (pv 1) (aa (aD jQ (hr.mono (by decide)) rfl bh.m bh.fn.kp bh.b .nil bB (aa (fk (aa (fP (pv 0) rfl) (aa (fP (pv 0) rfl) ah))) ah)) ah)))
   (aq (aR (gD PySem.F.plainAttrs_str PySem.F.slot_str_join PySem.F.type_str_join (iz rfl) (dI (v:=.str (Str.ofString "\n")) rfl T.ux ⟨_,rfl⟩) (aa (pv 1) ah))))))),?_⟩
  refine⟨_,rfl,x,_,_,_,_,rfl,hx,T.bu,T.i9,uA,by show 1<=sizeLine;decide,λl hl=>?_⟩
  have s1:ai H (upd H l (.lst [.str sg])):=ai.upd hl
  have hl1:upd H l (.lst [.str sg]) l=some (.lst [.str sg]):=af
  generalize upd H l (.lst [.str sg])=H1 at s1 hl1 ⊢
  have NO:=s1 _ _ hx
  refine⟨_,rfl,.inl ⟨rfl,_,bX.of hl1⟩,?_⟩
  refine⟨_,rfl,x,_,_,_,_,rfl,NO,T.bu,T.gE,uB,.tup Pp,_,rfl,ai.cp s1 (c:=.tup Pp) hq,λl2 hl2=>?_⟩
  refine qZ rows.length (λi=>.str (jb ((rows.getD i []).map sW))) hl2 (Nat.lt_of_le_of_lt hn (by decide)) (λi H2 s2 hi=>?_) (λH2 s2=>⟨_,ai.cp (s1.trans s2) (c:=.tup Pp) hq,by rw[List.length_map];omega⟩) (λi y H2 H3 R s2 hi hy hR=>?_) λH2 s2 hm=>?_
  ·exact⟨_,_,ai.cp (s1.trans s2) (c:=.tup Pp) hq,by rw[List.getElem?_map,List.getElem?_eq_getElem (show i<qs.length by omega)];rfl⟩
  ·obtain⟨rfl,hy⟩:=hy
   have ey:=hy _ (ai.cp (s1.trans s2) (c:=.tup Pp) hq)
   have TM:i<qs.length:=by omega
   rw[List.getElem?_map,List.getElem?_eq_getElem TM]at ey
   cases ey
   obtain⟨r,er,hr⟩:=Paired.at hp (List.getElem?_eq_getElem TM)
   refine⟨Kp.rep _ _,?_⟩
   have eg:rows.getD i []=r:=by rw[List.getD_eq_getElem?_getD,er];rfl
   rw[eg]at hR
   have hrm:=List.mem_of_getElem? er
   exact⟨_,rfl,.tup qs[i],r,rfl,hr.same (s1.trans s2),ho r hrm,by rw[n8.2 r hrm];exact h12,hR⟩
  have Jt:=s1.trans s2
  rw[tO (λr=>V.str (jb (r.map sW))) [] rows]at hm
  refine⟨l,l2,_,_,rfl,rfl,s2 _ _ hl1,hm,?_,?_⟩
  ·rw[List.length_map]
   exact Nat.le_trans (show 1+rows.length<=20 by omega) (by decide)
  generalize hL:([V.str sg]++rows.map λr=>V.str (jb (r.map sW)))=L
  have V4:L.length<=13:=by rw[←hL,List.length_append,List.length_map];show 1+rows.length<=13;omega
  have nl:l≠x:=λz=>by rw[z,hx]at hl;cases hl
  have R8:upd H2 l (.lst L) l=some (.lst L):=af
  have s3:ai H (upd H2 l (.lst L)):=ai.at Jt hl
  generalize upd H2 l (.lst L)=H3 at R8 s3 ⊢
  have Tu:=s3 _ _ hx
  refine⟨_,rfl,.inl ⟨rfl,_,bX.of R8⟩,?_⟩
  refine⟨_,rfl,x,_,_,_,_,rfl,Tu,T.bu,T.fE,qk,_,rfl,x,_,_,_,_,rfl,Tu,T.bu,T.iy,v9,by show 2<=sizeLine;decide,λl3 hl3=>?_⟩
  have s4:ai H3 (upd H3 l3 (.lst [.ref o,.ref m])):=ai.upd hl3
  refine⟨.lst l3,[fo,fm],rfl,⟨[o,m],bX.of af,.cons (RO.same (s3.trans s4)) (.cons (RQ.same (s3.trans s4)) .nil)⟩,λf hf=>?_,by show 2<=12;decide,λH5 s5=>?_⟩
  ·rcases List.mem_cons.mp hf with rfl|hf
   ·exact hfo
   ·rw[List.mem_singleton.mp hf];exact hfm
  have MB:=s5 _ _ (s4 _ _ R8)
  refine⟨l,_,_,rfl,rfl,MB,Nat.lt_of_le_of_lt V4 (by decide),?_⟩
  refine⟨rfl,_,rfl,_,l,gy sg rows fo fm,rfl,rfl,.inl (bX.of ?_),by decide,λz hz=>?_,?_,k _ (ai.at ((s3.trans s4).trans s5) hl)⟩
  ·rw[af,←hL]
   unfold gy
   simp only[List.map_cons,List.map_append,List.map_map,List.map_nil,List.cons_append,List.nil_append]
   rfl
  ·exact sL n8 h12 ho hfo hfm z hz
  ·unfold gy
   rw[List.length_cons,List.length_append,List.length_map]
   exact Nat.le_trans (show rows.length+1+1<=20 by omega) (by decide)
end
section
open PySem.NumText
variable{P:Program}{w:World}{K:PySem.W.Frag}{mg:Str->Option Value}{base:Heap}
theorem uY {g6 bZ aA:Addr} {gg bQ aO:FuncData} {p:Pm} (T:Txt K mg p) (eY:Dn K mg "read_signs" jT l9 g6 gg) (bC:Dn K mg "check_signs" gb GV bZ bQ) (k9:aW P w K mg base (sS P w) 3 bZ bQ GV (oF p.bx)) (aM:Dm K "__init__" "NoText.__init__" bF DP aA aO) (iB:K8 K p.av aA) (dF:z5 P w K mg base (sS P w) 1 aA aO DP (vJ p.av)):aW P w K mg base (sS P w) 4 g6 gg l9 (Bw p.av):=by
 refine eY.fn.LS uV (λvs H Q E h=>?_) (λcdv A outer s H vs Q E hr h=>?_)
 ·obtain⟨x,rfl,_⟩:=h
  rfl
 ·obtain⟨x,rfl,hx,kq,ke⟩:=h
  refine⟨_,(ak (ED Fx (λ_ _ _ LT PO=>(aq (gR (yT k9 (hr.mono (by decide)) rfl bC.m bC.fn.kp bC.b .nil LT (aa (pv 0) ah))))) (CV Fx jz iB dF (hr.mono (by decide)) rfl aM.b rfl T.jI T.yx rfl T.lF (λea=>(aa aj ah)) EG))
   (aq (aR (pv 0)))),?_⟩
  refine⟨_,rfl,x,rfl,hx,λhs H1 s1=>⟨_,rfl,kq hs H1 s1⟩,λhs H1 s1=>?_⟩
  refine⟨p.bx,true,rfl,T.ny,mh ⟨rfl,λea NV=>⟨by show 1<=sizeLine;decide,af,λe hn=>?_⟩⟩⟩
  have NL:ea≠e:=λz=>by rw[←z,af]at hn;cases hn
  have hne:H1 e=none:=by rw[az (Ne.symm NL)]at hn;exact hn
  refine⟨e,0,rfl,af,Nat.zero_le _,λdx H' hk hdx hx hd=>⟨rfl,hk ea _ (by rw[az NL];exact af) NL,dx,hx,ke hs dx _ (λb u hb=>?_) ?_⟩⟩
  ·have hb1:=s1 b u hb
   have nb:b≠e:=λz=>by rw[z,hne]at hb1;cases hb1
   have Ti:b≠ea:=λz=>by rw[z,NV]at hb1;cases hb1
   rw[iJ Ti,iJ nb]
   exact hk b u (by rw[az nb,az Ti];exact hb1) nb
  ·have ne:dx≠e:=λz=>by rw[z,af]at hdx;cases hdx
   have ne2:dx≠ea:=λz=>by rw[z,az NL,af]at hdx;cases hdx
   rw[iJ ne2,iJ ne]
   exact hd
theorem p6 {dU aA eG:Addr} {dB aO dO:FuncData} {p:Pm} (T:Txt K mg p) (bN:Dn K mg "read_fractions" gP Mg dU dB) (aM:Dm K "__init__" "NoText.__init__" bF DP aA aO) (iB:K8 K p.av aA) (dF:aW P w K mg base (sS P w) 1 aA aO DP (lu p.av)) (cQ:Dn K mg "read_fraction" iC l7 eG dO) (sG:aW P w K mg base ee 5 eG dO l7 (By K)):aW P w K mg base (sS P w) 7 dU dB Mg (yJ K p.av):=by
 refine bN.fn.LS kD (λvs H Q E h=>?_) (λcdv A outer s H vs Q E hr h=>?_)
 ·obtain⟨l,rs,i,n,rfl,_⟩:=h
  rfl
 ·obtain⟨l,rs,i,n,rfl,hl,hz,hn,hi,kq,ke⟩:=h
  have Q6:(rs.map V.str).length=rs.length:=List.length_map ..
  have fin:(∀x,rs[i]? =some x->uX x n=none)->∀(D:Ends) (σ:L2.St) (H5:Hp),σ[1]? =some (some (.int (i:Int)))->ai H H5->wM p.av (lu p.av) (λ_=>E) (Bq (Gk 1) Ji) D σ H5:=λhb D σ H5 hσ s5=>by
   refine⟨_,hσ,by show 1<=sizeLine;decide,λe hne=>?_⟩
   have Ka:H e=none:=ai.free s5 hne
   refine⟨e,i,rfl,af,by omega,λdx H' hk hdx hx hd=>⟨rfl,some dx,hx,ke hb dx _ (λb u hb=>?_) ?_⟩⟩
   ·have nb:b≠e:=λz=>by rw[z,Ka]at hb;cases hb
    rw[iJ nb]
    exact hk b u (by rw[az nb];exact s5 b u hb) nb
   ·have ne:dx≠e:=λz=>by rw[z,af]at hdx;cases hdx
    rw[iJ ne]
    exact hd
  refine⟨_,(ak (ck (bw HN (pv 1) (ay (bL) rfl T.dG b6 (aa (pv 0) ah)) (bH _)) (aq (qI jz iB dF (hr.mono (by decide)) aM.b rfl rfl T.lF (aa (pv 1) ah))) aY)
   (ak (tQ (i:=3) (N:=["part"]) kD.nd rfl (Or.inl rfl) rfl (λ_=>⟨[],cC.plain (by decide +kernel) rfl (by decide +kernel) (by decide +kernel)⟩) (kJ (gD PySem.F.plainAttrs_str PySem.F.slot_str_split PySem.F.type_str_split lE (aV bG (pv 0) (pv 1) (λ_ _=>rfl)) (aa (dI (v:=.str (Str.ofString " ")) rfl T.vZ ⟨_,rfl⟩) ah))) (λ_ _ _ _ _ _ _=>(bD (i:=0) (show(["part"]:List Str).Nodup by decide +kernel) rfl (Or.inl rfl))) (λ_ _ _ _ _ _ _=>(aD sG (hr.mono (by decide)) rfl cQ.m cQ.fn.kp cQ.b .nil bB (aa (pv 0) ah))))
   (ak (ck (PW.pt (m6 (bw oK (ay (bL) rfl T.dG b6 (aa (pv 3) ah)) (pv 2) (bH _)) (kW (bw (CY (Ia hr)) xh (pv 3) (by with_unfolding_all rfl))))) (aq (qI jz iB dF (hr.mono (by decide)) aM.b rfl rfl T.lF (aa (pv 1) ah))) aY)
   (aq (aR (pv 3)))))),?_⟩
  refine⟨_,rfl,_,rfl,_,_,rfl,.inl ⟨_,hl,rfl⟩,_,_,rfl,rfl,_,rfl,?_⟩
  refine fQ (λz=>?_) λz=>?_
  ·refine fin (λx hx=>?_) { nx:=λ_ _=>True,rt:=λ_ _=>True } _ _ rfl (ai.refl H)
   have z':(((rs.map V.str).length:Nat):Int)<=(i:Int):=z
   rw[List.getElem?_eq_none (by omega)]at hx
   cases hx
  have hlt:i<rs.length:=by
   have z':¬(((rs.map V.str).length:Nat):Int)<=(i:Int):=z
   omega
  have ex:rs[i]? =some rs[i]:=List.getElem?_eq_getElem hlt
  have Rg:=hz rs[i] (List.getElem_mem hlt)
  obtain⟨KR,Ny⟩:=rF rs[i] 32
  generalize rs[i]=x at ex Rg KR Ny
  have To:=λfs=>kq x fs ex
  have fin':=λhb=>fin λy hy=>by rw[ex]at hy;cases hy;exact hb
  refine⟨_,rfl,_,rfl,l,_,_,.str x,rfl,rfl,hl,bO (j:=i) (by rw[List.getElem?_map,ex];rfl),rfl,x,32,rfl,rfl,Nat.le_trans Rg (by decide),λl1 hl1=>?_⟩
  have kb:uX x n=none->∀(D:Ends) (σ:L2.St) (H5:Hp),σ[1]? =some (some (.int (i:Int)))->ai H H5->wM p.av (lu p.av) (λ_=>E) (Bq (Gk 1) Ji) D σ H5:=fin'
  have r1:=λh1 h2=>To _ (Ez (x:=x) (n:=n) h1 h2)
  have r2:=λh=>kb (tN (x:=x) (n:=n) h)
  clear To fin' kb fin kq ke
  have Tp:∀r∈Txt.split x ⟨#[32]⟩,r.cps.size<=2000:=λr hr=>Nat.le_trans (KR r hr) Rg
  have hxn:(Txt.split x ⟨#[32]⟩).length<=2001:=by omega
  generalize Txt.split x ⟨#[32]⟩=ps at r1 r2 Tp hxn ⊢
  have s1:ai H (upd H l1 (.lst (ps.map V.str))):=ai.upd hl1
  have h1:upd H l1 (.lst (ps.map V.str)) l1=some (.lst (ps.map V.str)):=af
  generalize upd H l1 (.lst (ps.map V.str))=H1 at s1 h1 ⊢
  refine⟨l1,rfl,⟨_,bX.of h1⟩,λl2 hl2=>?_⟩
  refine⟨λj m ys H2=>m=ps.length-j/\j<=ps.length/\ai H1 H2/\H2 l2=some (.lst ys)/\Paired (RV H2) ys ((ps.map oJ).take j),⟨ps.length,rfl,Nat.zero_le _,ai.upd hl2,af,.nil⟩,?_⟩
  rintro j m ys H2 ⟨rfl,hj,s2,h2,hP⟩
  have h12:=bX.of (K:=K) (s2 _ _ h1)
  have hyl:=Paired.len hP
  rw[List.length_take,List.length_map]at hyl
  by_cases Cd:j<ps.length
  ·have ej:(ps.map V.str)[j]? =some (.str ps[j]):=by rw[List.getElem?_map,List.getElem?_eq_getElem Cd];rfl
   refine .inr ⟨⟨_,_,h12,ej⟩,?_⟩
   rintro y H3 ⟨rfl,hy⟩
   have ey:=hy _ h12
   rw[ej]at ey
   cases ey
   have er:(ps.map oJ)[j]? =some (oJ ps[j]):=by rw[List.getElem?_map,List.getElem?_eq_getElem Cd];rfl
   have Td:∀(y:V) (H5:Hp),ai H3 H5->RV H5 y (oJ ps[j])->H5 l2=some (.lst ys)/\ys.length<sizeLine/\∃m',m'<ps.length-j/\(m'=ps.length-(j+1)/\j+1<=ps.length/\ai H1 (upd H5 l2 (.lst (ys++[y])))/\upd H5 l2 (.lst (ys++[y])) l2=some (.lst (ys++[y]))/\Paired (RV (upd H5 l2 (.lst (ys++[y])))) (ys++[y]) ((ps.map oJ).take (j+1))):=λy H5 s5 hv=>by
    have h5:=s5 _ _ h2
    refine⟨h5,Nat.lt_of_le_of_lt (show ys.length<=3000 by omega) (by decide),ps.length-(j+1),by omega,rfl,Cd,ai.at (s2.trans s5) hl2,af,?_⟩
    rw[take_snoc er]
    exact GP.Paired.snoc (Paired.iW hP λa b z=>(z.same s5).off h5) (hv.off h5)
   refine⟨Kp.rep _ _,?_⟩
   refine⟨_,rfl,ps[j],rfl,Tp _ (List.getElem_mem Cd),λf hf q H5 s5 hq h5=>Td _ H5 s5 (by rw[hf];exact⟨q,rfl,h5⟩),λhf H5 s5=>Td _ H5 s5 (by rw[hf];exact rfl)⟩
  ·have ej:j=ps.length:=by omega
   subst ej
   rw[List.take_of_length_le (by rw[List.length_map];exact Nat.le_refl _)]at hP
   refine .inl ⟨⟨_,h12,by rw[List.length_map];exact Nat.le_refl _⟩,?_⟩
   have Jt:=s1.trans s2
   have Ri:ys.length=(ps.map oJ).length:=Paired.len hP
   refine⟨_,rfl,_,_,rfl,.inl ⟨_,bX.of h2,rfl⟩,_,rfl,rfl,_,rfl,?_⟩
   refine pF (λz=>?_) λz=>?_
   ·exact r2 (λq=>z (by show((ys.length:Nat):Int)=(n:Int);rw[Ri,q.1])) { nx:=λ_ _=>True,rt:=λ_ _=>True } _ _ rfl Jt
   have z':(ps.map oJ).length=n:=by
    have SQ:((ys.length:Nat):Int)=(n:Int):=z
    omega
   refine⟨_,rfl,l2,ys,rfl,rfl,bX.of h2,yN hP,_,rfl,?_⟩
   rw[BI hP]
   cases ha:(ps.map oJ).all Option.isSome with
   |false=>exact B9 (r2 (λq=>by rw[q.2]at ha;cases ha) { nx:=λ_ _=>True,rt:=λ_ _=>True } _ _ rfl Jt)
   |true =>
    obtain⟨qs,eq,hq⟩:=Ew hP ha
    exact jK ⟨_,rfl,r1 z' ha l2 qs H2 Jt (ai.free s1 hl2) (by rw[h2,eq]) hq⟩
end
section
open PySem.NumText
variable{P:Program}{w:World}{K:PySem.W.Frag}{mg:Str->Option Value}{base:Heap}
theorem tW {gp g6 dU aA aL:Addr} {fF gg dB aO bY:FuncData} {p:Pm} (T:Txt K mg p) (dM:Dn K mg "read_prices" jw l7 gp fF) (eY:Dn K mg "read_signs" jT l9 g6 gg) (yg:aW P w K mg base (sS P w) 4 g6 gg l9 (Bw p.av)) (bN:Dn K mg "read_fractions" gP Mg dU dB) (lM:aW P w K mg base (sS P w) 7 dU dB Mg (yJ K p.av)) (aM:Dm K "__init__" "NoText.__init__" bF DP aA aO) (iB:K8 K p.av aA) (dF:aW P w K mg base (sS P w) 1 aA aO DP (lu p.av)) (bU:Dm K "__init__" "Prices.__init__" bS HU aL bY) (lJ:Mk K p.au aL) (jg:aW P w K mg base ee 5 aL bY HU (Ak K p.au)):aW P w K mg base (sS P w) 9 gp fF l7 (Bx K p.au p.av):=by
 refine dM.fn.LS gz (λvs H Q E h=>?_) (λcdv A outer s H vs Q E hr h=>?_)
 ·obtain⟨rows,rfl,_⟩:=h
  rfl
 ·obtain⟨rows,rfl,L,kq,ke⟩:=h
  have e0:rows[0]? =some (f6 rows):=by
   cases rows with
   |nil=>exact absurd rfl L.ne
   |cons a t=>rfl
  have Fi:=L.small
  have hzs:(f6 rows).length<=sizeLine:=Nat.le_trans Fi (by decide)
  have fin:∀(i:Nat),mD rows i->∀(e dx:Addr) (H5 H':Hp),ai H H5->H5 e=none->(∀b u,upd H5 e (newX e p.av none) b=some u->b≠e->H' b=some u)->upd H5 e (newX e p.av none) dx=none->H' dx=some (vB dx (zK i))->E (.ref p.av) (some dx) (del H' e):=λi hb e dx H5 H' s5 hne hk hdx hd=>by
   refine ke i hb dx _ (λb u hb=>?_) ?_
   ·have Ka:H e=none:=ai.free s5 hne
    have nb:b≠e:=λz=>by rw[z,Ka]at hb;cases hb
    rw[iJ nb]
    exact hk b u (by rw[az nb];exact s5 b u hb) nb
   ·have ne:dx≠e:=λz=>by rw[z,af]at hdx;cases hdx
    rw[iJ ne]
    exact hd
  refine⟨_,(ak (aE (i:=1) gz.nd rfl (Or.inr rfl) (gD PySem.F.plainAttrs_str PySem.F.slot_str_split PySem.F.type_str_split lE (pv 0) (aa (dI (v:=.str (Str.ofString "\n")) rfl T.ux ⟨_,rfl⟩) ah)))
   (ak (aE (i:=2) gz.nd rfl (Or.inr rfl) (aD yg (hr.mono (by decide)) rfl eY.m eY.fn.kp eY.b .nil (Lets.passes jz) (aa (aV bG (pv 1) aj (λ_ _=>rfl)) ah)))
   (ak (yQ (i:=3) (N:=["place","rows","signs"]) Fx jz gz.nd rfl (Or.inl rfl) rfl (cC.zE (nt:=1) (ix:=[1,2]) rfl (by decide +kernel) (by decide +kernel) (by kernel_rfl) rfl (by kernel_rfl)) (jl rfl T.lP (aa (ay (lI (K':=K) rfl) rfl T.dG b6 (aa (pv 2) ah)) ah)) (λ_ _ _ _ _ _ _=>(bD (i:=0) (show(["place","rows","signs"]:List Str).Nodup by decide +kernel) rfl (Or.inl rfl))) (λ_ _ _ _ _ _ _ LL=>(aD lM (hr.mono (by decide)) rfl bN.m bN.fn.kp bN.b .nil (Lets.passes LL) (aa (pv 1) (aa (aB gu (pv 0) aj) (aa (ay (lI (K':=K) rfl) rfl T.dG b6 (aa (pv 2) ah)) ah))))))
   (ak (aE (i:=4) gz.nd rfl (Or.inl rfl) (aD lM (hr.mono (by decide)) rfl bN.m bN.fn.kp bN.b .nil (Lets.passes jz) (aa (pv 1) (aa (aB gu (ay (lI (K':=K) rfl) rfl T.dG b6 (aa (pv 2) ah)) aj) (aa aj ah)))))
   (ak (ck (bw tV (ay (bL) rfl T.dG b6 (aa (pv 1) ah)) (aB gu (ay (lI (K':=K) rfl) rfl T.dG b6 (aa (pv 2) ah)) aj) (bH _)) (aq (qI jz iB dF (hr.mono (by decide)) aM.b rfl rfl T.lF (aa (aB gu (ay (lI (K':=K) rfl) rfl T.dG b6 (aa (pv 2) ah)) aj) ah))) aY)
   (aq (aR (BO lJ jg (hr.mono (by decide)) rfl T.qR bU.b .nil bB (aa (pv 2) (aa (pv 3) (aa (aV bG (pv 4) aj (λ_ _=>rfl)) (aa (aV bG (pv 4) aj (λ_ _=>rfl)) ah)))))))))))),?_⟩
  refine⟨_,rfl,rfl,jn rows,10,rfl,rfl,L.jn,λl hl=>?_⟩
  rw[show Txt.split (jn rows) ⟨#[10]⟩=rows from jD L.ne L.free]
  have s1:ai H (upd H l (.lst (rows.map V.str))):=ai.upd hl
  have h1:upd H l (.lst (rows.map V.str)) l=some (.lst (rows.map V.str)):=af
  generalize upd H l (.lst (rows.map V.str))=H1 at s1 h1 ⊢
  have Q6:(rows.map V.str).length=rows.length:=List.length_map ..
  have G4:=L.len
  refine⟨_,rfl,l,_,_,.str (f6 rows),rfl,rfl,bX.of h1,bO (j:=0) (by rw[List.getElem?_map,e0];rfl),f6 rows,rfl,L.asc,λhs H2 s2=>?_,λhs dx H2 s2 hd=>ke 0 (.inl ⟨rfl,hs⟩) dx H2 (s1.trans s2) hd⟩
  have Jt:=s1.trans s2
  have h2:=s2 _ _ h1
  refine⟨_,rfl,_,_,rfl,⟨hzs,rfl⟩,_,rfl,by omega,?_,λl2 hl2=>?_⟩
  ·have z:((f6 rows).length:Int)<=12:=by exact_mod_cast Fi
   exact Int.lt_of_le_of_lt z (by decide)
  refine⟨λj m ys H3=>m=(f6 rows).cps.size-j/\j<=(f6 rows).cps.size/\ai H2 H3/\H3 l2=some (.lst ys)/\∃(qs:List Addr) (prs:List (List aS)),ys=qs.map V.ref/\l2∉qs/\prs.length=j/\(∀i r,prs[i]? =some r->∃x,rows[i+1]? =some x/\uX x (f6 rows).cps.size=some r)/\Paired (se K H3) qs prs,
   ⟨(f6 rows).cps.size,rfl,Nat.zero_le _,ai.upd hl2,af,[],[],rfl,(by simp),rfl,(λi r z=>by cases z),.nil⟩,?_⟩
  rintro j m ys H3 ⟨rfl,hj,s3,h3,qs,prs,rfl,nq,hpl,F5,hP⟩
  have KU:=Jt.trans s3
  have hl3:=s3 _ _ h2
  have KY:∀i,1<=i->i<j+1->i<=(f6 rows).cps.size+1->yq rows (f6 rows).cps.size i=true:=λi i1 i2 i3=>by
   obtain⟨i',rfl⟩:∃i',i=i'+1:=⟨i-1,by omega⟩
   obtain⟨x,ex,er⟩:=F5 i' _ (List.getElem?_eq_getElem (show i'<prs.length by omega))
   exact kh ex (by rw[vC (by omega)];exact er)
  by_cases Cd:j<(f6 rows).cps.size
  ·refine .inr ⟨Cd,?_⟩
   rintro y H4 ⟨rfl,rfl⟩
   refine⟨Kp.Jq,?_⟩
   have hc:(0+(j:Int))+1=((j+1:Nat):Int):=by omega
   refine⟨_,rfl,_,rfl,_,_,rfl,rfl,_,rfl,_,_,rfl,⟨hzs,rfl⟩,?_⟩
   refine⟨l,rows,j+1,(f6 rows).cps.size,(by rw[←hc];rfl),bX.of hl3,L.row,Nat.le_trans G4 (by decide),by omega,λx fs ex er q ps H5 s5 hq h5 yr=>?_,λhb dx H5 s5 hd=>?_⟩
   ·have Sg:=s5 _ _ h3
    have LW:q≠l2:=λz=>by rw[z,h3]at hq;cases hq
    refine⟨Sg,?_,(f6 rows).cps.size-(j+1),by omega,rfl,Cd,ai.at (s3.trans s5) hl2,af,qs++[q],prs++[fs],by rw[List.map_append];rfl,?_,by rw[List.length_append,hpl];rfl,λi r hr=>?_,?_⟩
    ·rw[List.length_map,Paired.len hP,hpl]
     exact Nat.lt_of_lt_of_le Cd (Nat.le_trans Fi (by decide))
    ·intro z
     rcases List.mem_append.mp z with z|z
     ·exact nq z
     ·exact LW (List.mem_singleton.mp z).symm
    ·by_cases hi:i<prs.length
     ·rw[List.getElem?_append_left hi]at hr
      exact F5 i r hr
     ·rw[List.getElem?_append_right (by omega)]at hr
      have e1:i-prs.length=0:=by
       by_cases z:i-prs.length=0
       ·exact z
       ·rw[List.getElem?_eq_none (by show 1<=_;omega)]at hr
        cases hr
      rw[e1]at hr
      cases hr
      exact⟨x,by rw[show i=j by omega];exact ex,er⟩
    ·refine GP.Paired.snoc ?_ (se.off Sg LW ⟨ps,h5,Paired.iW yr λa b z=>cL.of z⟩)
     have all:∀{as:List Addr} {bs:List (List aS)} (u:HO),l2∉as->Paired (se K H4) as bs->Paired (se K (upd H5 l2 u)) as bs:=by
      intro as bs u hn hp
      induction hp with
      |nil=>exact .nil
      |cons a b ih=>exact .cons ((a.same s5).off Sg λz=>hn (by rw[z];exact List.mem_cons_self)) (ih λz=>hn (List.mem_cons_of_mem _ z))
     exact all _ nq hP
   ·refine ke (j+1) (.inr ⟨hs,KY,.inl ⟨by omega,by omega,lC λx ex=>?_⟩⟩) dx H5 (KU.trans s5) hd
    rw[vC Cd]
    exact hb x ex
  ·have ej:j=(f6 rows).cps.size:=by omega
   subst ej
   refine .inl ⟨Nat.le_refl _,?_⟩
   have hc1:(((f6 rows).length:Nat):Int)+1=(((f6 rows).cps.size+1:Nat):Int):=by show(((f6 rows).cps.size:Nat):Int)+1=_;omega
   refine⟨_,rfl,_,rfl,_,_,rfl,⟨hzs,rfl⟩,_,_,rfl,rfl,?_⟩
   refine⟨l,rows,(f6 rows).cps.size+1,2,(by rw[←hc1];rfl),bX.of hl3,L.row,Nat.le_trans G4 (by decide),by omega,λx fs ex er q ps H5 s5 hq h5 yr=>?_,λhb dx H5 s5 hd=>?_⟩
   ·obtain⟨hfl,TZ⟩:=EA er
    obtain⟨fo,fm,rfl⟩:∃fo fm,fs=[fo,fm]:=by
     match fs,hfl with
     |[a,b],_=>exact⟨a,b,rfl⟩
    have Ry:=Paired.len yr
    obtain⟨p0,p1,rfl⟩:∃p0 p1,ps=[p0,p1]:=by
     match ps,Ry with
     |[a,b],_=>exact⟨a,b,rfl⟩
    have NF:=KU.trans s5
    have l5:=s5 _ _ hl3
    obtain⟨NO,Tv⟩:=List.getElem?_eq_some_iff.mp ex
    refine⟨_,rfl,_,_,rfl,.inl ⟨_,bX.of l5,rfl⟩,_,rfl,_,_,rfl,⟨hzs,rfl⟩,_,_,rfl,rfl,_,_,rfl,rfl,_,rfl,?_⟩
    have okn:∀i,1<=i->i<(f6 rows).cps.size+2->i<=(f6 rows).cps.size+1->yq rows (f6 rows).cps.size i=true:=λi i1 i2 i3=>by
     by_cases z:i=(f6 rows).cps.size+1
     ·rw[z]
      exact kh ex (by rw[wG];exact er)
     ·exact KY i i1 (by omega) i3
    refine fQ (λz=>?_) λz=>?_
    ·have z':(((f6 rows).cps.size:Nat):Int)+2<(((rows.map V.str).length:Nat):Int):=z
     refine⟨_,rfl,_,_,rfl,⟨hzs,rfl⟩,_,_,rfl,rfl,by show 1<=sizeLine;decide,λe hn=>?_⟩
     exact⟨e,(f6 rows).cps.size+2,rfl,af,by omega,λdx H' hk hdx hx hd=>⟨rfl,some dx,hx,fin _ (.inr ⟨hs,okn,.inr ⟨rfl,by omega⟩⟩) e dx H5 H' NF hn hk hdx hd⟩⟩
    ·have z':¬(((f6 rows).cps.size:Nat):Int)+2<(((rows.map V.str).length:Nat):Int):=z
     obtain⟨ub,kk⟩:=kq prs fo fm ⟨hs,by omega,hpl,F5,x,ex,er⟩
     have Mu:∀r∈prs,r.length=(f6 rows).cps.size/\∀f∈r,cY f:=λr hr=>by
      obtain⟨i,hi,e⟩:=List.getElem_of_mem hr
      obtain⟨y,ey,N9⟩:=F5 i r (by rw[List.getElem?_eq_getElem hi,e])
      exact EA N9
     refine⟨_,rfl,_,rfl,_,rfl,q,_,_,.ref p0,rfl,rfl,bX.of h5,bO (j:=0) rfl,_,rfl,q,_,_,.ref p1,rfl,rfl,bX.of h5,bO (j:=1) rfl,λo dx ho hdx Vh=>?_⟩
     have s7:ai H5 (upd (upd H5 dx (.own o)) o (.ins p.au dx [])):=ai.at (ai.upd hdx) ho
     have S0:=s5.trans s7
     have f0:H5 p0=some (.tup [.int fo.1,.int fo.2]):=by cases yr with|cons a b=>exact a
     have f1:H5 p1=some (.tup [.int fm.1,.int fm.2]):=by cases yr with|cons a b=>cases b with|cons a b=>exact a
     refine⟨o,dx,p0,p1,f6 rows,.lst l2,prs,fo,fm,rfl,af,hs,Fi,GL (S0 _ _ h3) (Paired.iW hP λa b z=>z.same S0),⟨hpl,λr hr=>(Mu r hr).1⟩,λr hr f hf=>((Mu r hr).2 f hf).h,cL.of (s7 _ _ f0),(TZ fo List.mem_cons_self).h,cL.of (s7 _ _ f1),(TZ fm (List.mem_cons_of_mem _ List.mem_cons_self)).h,ub,λH8 pr kp nf=>⟨rfl,?_⟩⟩
     exact kk o H8 (λb u hb=>kp b u (s7 _ _ (NF _ _ hb)) λz=>by rw[z,ai.free NF ho]at hb;cases hb) (ai.free NF ho) pr
   ·refine ke ((f6 rows).cps.size+1) (.inr ⟨hs,KY,.inl ⟨by omega,Nat.le_refl _,lC λx ex=>?_⟩⟩) dx H5 (KU.trans s5) hd
    rw[wG]
    exact hb x ex
end
section
variable{P:Program}{w:World}{K:PySem.W.Frag}{mg:Str->Option Value}{base:Heap}
theorem tX {cX:Addr} {cE:FuncData} {p:Pm} (T:Txt K mg p) (bE:Dn K mg "_law_same" jj F2 cX cE)  :aW P w K mg base ee 1 cX cE F2 (pP K 0):=by
 refine bE.fn.ok rH (λvs H Q E h=>?_) (λcdv A outer s H vs Q E hr h=>?_)
 ·obtain⟨v,u,rfl,_⟩:=h
  rfl
 ·obtain⟨v,u,rfl,hE,k⟩:=h
  refine⟨_,(ak (ck (cT (ay (bA) rfl T.aN aK (aa (pv 1) (aa (c8 (v:=.ty "dict") rfl T.DW Cy rfl) ah)))) gf aY)
   (ak (ck (PW.pt (m6 (cT (ay (bA) rfl T.aN aK (aa (pv 1) (aa (c8 (v:=.ty "list") rfl T.sU qu rfl) ah)))) (kW (cT (ay (bA) rfl T.aN aK (aa (pv 1) (aa (c8 (v:=.ty "tuple") rfl T.ku jL rfl) ah))))))) gf aY)
   (ak (ck (cT (ay (bA) rfl T.aN aK (aa (pv 1) (aa (c8 (v:=.ty "str") rfl T.lq jt rfl) ah)))) (aq (aR (m7 (ay (bA) rfl T.aN aK (aa (pv 0) (aa (c8 (v:=.ty "str") rfl T.lq jt rfl) ah))) (qJ (lU iP (pv 0) (pv 1) (bH _)))))) aY)
   (aq (aR (m7 (ay (bA) rfl T.aN aK (aa (pv 0) (aa (c8 (v:=.ty "int") rfl T.Bh xQ rfl) ah))) (m7 (EI (ay (bA) rfl T.aN aK (aa (pv 0) (aa (c8 (v:=.ty "bool") rfl T.DX Cz rfl) ah)))) (qJ (lU iP (pv 0) (pv 1) (bH _)))))))))),?_⟩
  rcases hE with⟨x,rfl,rfl⟩|⟨n,rfl,rfl⟩
  ·refine⟨_,rfl,_,_,_,_,rfl,.inl (.str x),qc,_,rfl,jN ?_⟩
   refine⟨_,rfl,_,_,_,_,rfl,.inl (.str x),qb,_,rfl,jN ?_⟩
   refine⟨_,rfl,_,_,_,_,rfl,.inl (.str x),oN,_,rfl,jN ?_⟩
   refine⟨_,rfl,_,_,_,_,rfl,.inl (.str x),gG,_,rfl,mh ?_⟩
   refine⟨_,rfl,_,_,_,_,rfl,.inl (.str x),gG,_,rfl,mh ?_⟩
   refine⟨_,rfl,_,rfl,rfl,?_⟩
   rw[decide_eq_true rfl]
   exact k H (ai.refl H)
  ·refine⟨_,rfl,_,_,_,_,rfl,.inl (.int n),qe,_,rfl,jN ?_⟩
   refine⟨_,rfl,_,_,_,_,rfl,.inl (.int n),qd,_,rfl,jN ?_⟩
   refine⟨_,rfl,_,_,_,_,rfl,.inl (.int n),oO,_,rfl,jN ?_⟩
   refine⟨_,rfl,_,_,_,_,rfl,.inl (.int n),rK,_,rfl,jN ?_⟩
   refine⟨_,rfl,_,_,_,_,rfl,.inl (.int n),gG,_,rfl,mh ?_⟩
   refine⟨_,rfl,_,_,_,_,rfl,.inl (.int n),qf,_,rfl,_,rfl,mh ?_⟩
   refine⟨_,rfl,_,rfl,rfl,?_⟩
   rw[decide_eq_true rfl]
   exact k H (ai.refl H)
theorem jx {d:Nat} {cX:Addr} {cE:FuncData} {p:Pm} (T:Txt K mg p) (bE:Dn K mg "_law_same" jj F2 cX cE) (kr:aW P w K mg base ee (d+1) cX cE F2 (pP K d)):aW P w K mg base ee (d+2) cX cE F2 (pP K (d+1)):=by
 refine bE.fn.ok rH (λvs H Q E h=>?_) (λcdv A outer s H vs Q E hr h=>?_)
 ·obtain⟨v,u,rfl,_⟩:=h
  rfl
 ·obtain⟨v,u,rfl,hE,k⟩:=h
  refine⟨_,(ak (ck (cT (ay (bA) rfl T.aN aK (aa (pv 1) (aa (c8 (v:=.ty "dict") rfl T.DW Cy rfl) ah)))) gf aY)
   (ak (ck (PW.pt (m6 (cT (ay (bA) rfl T.aN aK (aa (pv 1) (aa (c8 (v:=.ty "list") rfl T.sU qu rfl) ah)))) (kW (cT (ay (bA) rfl T.aN aK (aa (pv 1) (aa (c8 (v:=.ty "tuple") rfl T.ku jL rfl) ah))))))) (ak (ck (PW.pt (Ay (cT (ay (bA) rfl T.aN aK (aa (pv 1) (aa (c8 (v:=.ty "list") rfl T.sU qu rfl) ah)))) (w9 (jk (cT (ay (bA) rfl T.aN aK (aa (pv 0) (aa (c8 (v:=.ty "list") rfl T.sU qu rfl) ah)))))))) (aq (aR pX)) aY)
   (ak (ck (PW.pt (m6 (PW.pt (Ay (cT (ay (bA) rfl T.aN aK (aa (pv 1) (aa (c8 (v:=.ty "tuple") rfl T.ku jL rfl) ah)))) (w9 (jk (cT (ay (bA) rfl T.aN aK (aa (pv 0) (aa (c8 (v:=.ty "tuple") rfl T.ku jL rfl) ah)))))))) (kW (bw oK (ay (bL) rfl T.dG b6 (aa (pv 0) ah)) (ay (bL) rfl T.dG b6 (aa (pv 1) ah)) (bH _))))) (aq (aR pX)) aY)
   (aq (aR (ay (kM rfl) rfl T.Bj xR (aa (gv (N:=F4) rfl (λ_=>⟨[],cC.plain (by decide +kernel) rfl (by decide +kernel) (by decide +kernel)⟩) (AA rfl rfl T.DV (aa (pv 0) (aa (pv 1) ah))) (λ_ _ _ _ _ _ _=>(GC (K':=K) (n:=2) rfl rfl (iw (bD (i:=0) (show(F4:List Str).Nodup by decide +kernel) rfl (Or.inl rfl)) (iw (bD (i:=1) (show(F4:List Str).Nodup by decide +kernel) rfl (Or.inl rfl)) pW)))) (λ_ _ _ _ _ _ _=>(aD kr (hr.mono (by omega)) rfl bE.m bE.fn.kp bE.b .nil bB (aa (pv 0) (aa (pv 1) ah))))) ah)))))) aY)
   (ak (ck (cT (ay (bA) rfl T.aN aK (aa (pv 1) (aa (c8 (v:=.ty "str") rfl T.lq jt rfl) ah)))) (aq (aR (m7 (ay (bA) rfl T.aN aK (aa (pv 0) (aa (c8 (v:=.ty "str") rfl T.lq jt rfl) ah))) (qJ (lU iP (pv 0) (pv 1) (bH _)))))) aY)
   (aq (aR (m7 (ay (bA) rfl T.aN aK (aa (pv 0) (aa (c8 (v:=.ty "int") rfl T.Bh xQ rfl) ah))) (m7 (EI (ay (bA) rfl T.aN aK (aa (pv 0) (aa (c8 (v:=.ty "bool") rfl T.DX Cz rfl) ah)))) (qJ (lU iP (pv 0) (pv 1) (bH _)))))))))),?_⟩
  rcases hE with(⟨x,rfl,rfl⟩|⟨n,rfl,rfl⟩)|⟨p,q,xs,ys,rfl,rfl,hp,hq,hlen,MC,hall⟩
  ·refine⟨_,rfl,_,_,_,_,rfl,.inl (.str x),qc,_,rfl,jN ?_⟩
   refine⟨_,rfl,_,_,_,_,rfl,.inl (.str x),qb,_,rfl,jN ?_⟩
   refine⟨_,rfl,_,_,_,_,rfl,.inl (.str x),oN,_,rfl,jN ?_⟩
   refine⟨_,rfl,_,_,_,_,rfl,.inl (.str x),gG,_,rfl,mh ?_⟩
   refine⟨_,rfl,_,_,_,_,rfl,.inl (.str x),gG,_,rfl,mh ?_⟩
   refine⟨_,rfl,_,rfl,rfl,?_⟩
   rw[decide_eq_true rfl]
   exact k H (ai.refl H)
  ·refine⟨_,rfl,_,_,_,_,rfl,.inl (.int n),qe,_,rfl,jN ?_⟩
   refine⟨_,rfl,_,_,_,_,rfl,.inl (.int n),qd,_,rfl,jN ?_⟩
   refine⟨_,rfl,_,_,_,_,rfl,.inl (.int n),oO,_,rfl,jN ?_⟩
   refine⟨_,rfl,_,_,_,_,rfl,.inl (.int n),rK,_,rfl,jN ?_⟩
   refine⟨_,rfl,_,_,_,_,rfl,.inl (.int n),gG,_,rfl,mh ?_⟩
   refine⟨_,rfl,_,_,_,_,rfl,.inl (.int n),qf,_,rfl,_,rfl,mh ?_⟩
   refine⟨_,rfl,_,rfl,rfl,?_⟩
   rw[decide_eq_true rfl]
   exact k H (ai.refl H)
  ·have tp:∀{H':Hp} {a:Addr} {zs:List V},cL K H' a zs->(pJ K H' (.ref a) (.type "tuple")\/∃b ws,V.ref a= .ref b/\cL K H' b ws/\Value.type "tuple" = .type "tuple"):=λ{H' a zs} z=>.inr ⟨a,zs,rfl,z,rfl⟩
   refine⟨_,rfl,_,_,_,_,rfl,tp hq,uo,_,rfl,jN ?_⟩
   refine⟨_,rfl,_,_,_,_,rfl,tp hq,nB,_,rfl,jN ?_⟩
   refine⟨_,rfl,_,_,_,_,rfl,tp hq,gG,_,rfl,mh ?_⟩
   refine⟨_,rfl,_,_,_,_,rfl,tp hq,nB,_,rfl,jN ?_⟩
   refine jN ?_
   refine⟨_,rfl,_,_,_,_,rfl,tp hq,gG,_,rfl,mh ?_⟩
   refine⟨_,rfl,_,_,_,_,rfl,tp hp,gG,_,rfl,?_⟩
   refine jK ⟨_,rfl,_,_,rfl,.inr ⟨_,hp,rfl⟩,_,rfl,_,_,rfl,.inr ⟨_,hq,rfl⟩,rfl,_,rfl,?_⟩
   refine pF (λz=>absurd (congrArg Nat.cast hlen) z) λ_=>?_
   refine⟨_,rfl,_,rfl,.tup p,.tup q,_,_,rfl,hp,hq,λl hl=>?_⟩
   refine qZ xs.length (λ_=>V.bl true) hl (Nat.lt_of_le_of_lt MC (by decide)) (λi H2 s2 hi=>?_) (λH2 s2=>⟨_,_,ai.tup s2 hp,ai.tup s2 hq,.inl (Nat.le_refl _)⟩) (λi z H2 H3 R s2 hi hy hR=>?_) λH2 s2 hl2=>?_
   ·exact⟨_,_,_,_,ai.tup s2 hp,ai.tup s2 hq,List.getElem?_eq_getElem hi,List.getElem?_eq_getElem (by rw[←hlen];exact hi)⟩
   ·obtain⟨p',x',y',rfl,NS,rfl,hxy⟩:=hy
    obtain⟨ex,ey⟩:=hxy _ _ (ai.tup s2 hp) (ai.tup s2 hq)
    refine⟨p',_,rfl,cL.of af,rfl,_,_,rfl,_,_,rfl,rfl,Kp.rep _ _,?_⟩
    exact⟨_,rfl,_,rfl,x',y',rfl,(hall i x' y' ex ey).same (s2.trans (ai.upd NS)),λH5 s5=>hR H5 ((ai.upd NS).trans s5)⟩
   ·refine⟨l,(List.range xs.length).map λ_=>true,rfl,bX.of (by rw[hl2,List.map_map];rfl),?_⟩
    rw[show((List.range xs.length).map λ_=>true).all id=true from List.all_eq_true.mpr λb hb=>by
     obtain⟨_,_,rfl⟩:=List.mem_map.mp hb
     rfl]
    exact k H2 s2
end
section
open PySem.NumText
variable{P:Program}{w:World}{K:PySem.W.Frag}{mg:Str->Option Value}{base:Heap}
theorem nh {cO fV:Addr} {cF eW:FuncData} {p:Pm} (T:Txt K mg p) (aF:Dn K mg "_law_fraction_text" fB F1 cO cF) (c5:Dn K mg "_law_part" j9 F4 fV eW) (pM:aW P w K mg base ee 1 fV eW F4 Aj):aW P w K mg base ee 2 cO cF F1 (HG K):=by
 refine aF.fn.ok eO (λvs H Q E h=>?_) (λcdv A outer s H vs Q E hr h=>?_)
 ·obtain⟨p,f,rfl,_⟩:=h
  rfl
 ·obtain⟨p,⟨a,b⟩,rfl,hf,ho,k⟩:=h
  have hb:0<b:=by have:=ho.pos;exact this
  have g1:=jB a hb
  have g2:=xH a hb
  have gS:Sm ((Int.gcd a b:Nat):Int):=Sm.le (Int.le_of_lt g1) g2 (uh ho.BE)
  have lf:=k6 ho
  refine⟨_,(ak (aE (i:=1) eO.nd rfl (Or.inl rfl) (aD pM (hr.mono (by decide)) rfl c5.m c5.fn.kp c5.b .nil bB (aa (ay (qp) rfl T.Bk xS (aa (aV bW (pv 0) aj (λ_ _=>rfl)) ah)) (aa (aV bW (pv 0) aj (λ_ _=>rfl)) ah))))
   (ak (aE (i:=2) eO.nd rfl (Or.inl rfl) (aB jH (aV bW (pv 0) aj (λ_ _=>rfl)) (pv 1)))
   (ak (aE (i:=3) eO.nd rfl (Or.inl rfl) (aB jH (aV bW (pv 0) aj (λ_ _=>rfl)) (pv 1)))
   (ak (ck (bw iP (pv 3) aj (bH _)) (aq (aR (cM (fX) rfl T.lq jt (aa (pv 2) ah)))) aY)
   (aq (aR (aB bK (aB bK (cM (fX) rfl T.lq jt (aa (pv 2) ah)) aI) (cM (fX) rfl T.lq jt (aa (pv 3) ah))))))))),?_⟩
  refine⟨_,rfl,_,_,_,_,rfl,rfl,hf,rfl,_,rfl,_,rfl,_,_,_,_,rfl,rfl,hf,rfl,_,b,rfl,by split<;>omega,Int.le_of_lt hb,?_⟩
  rw[zC]
  refine⟨_,rfl,_,_,_,_,rfl,rfl,hf,rfl,_,rfl,_,_,rfl,rfl,⟨g1,gS.bg⟩,_,rfl,_,_,_,_,rfl,rfl,hf,rfl,_,rfl,_,_,rfl,rfl,⟨g1,gS.bg⟩,?_⟩
  have l1:=wZ lf.El
  have l2:=wZ lf.BE
  refine⟨_,rfl,rfl,_,rfl,?_⟩
  refine jo (λz=>?_) λz=>?_
  ·rw[Aq z]at k
   exact⟨_,rfl,_,rfl,lY lf.El,k⟩
  ·rw[BF lf.pos z]at k
   refine⟨_,rfl,_,rfl,lY lf.El,_,_,rfl,rfl,Nat.le_trans (Nat.add_le_add_right l1 1) (by decide),_,rfl,_,rfl,lY lf.BE,_,_,rfl,rfl,?_,k⟩
   show(sI (aZ (a,b)).1++(⟨#[47]⟩:Str)).cps.size+(sI (aZ (a,b)).2).cps.size<=sizeLine
   rw[dX]
   exact Nat.le_trans (Nat.add_le_add (Nat.add_le_add_right l1 1) l2) (by decide)
theorem vd {g9 fV:Addr} {gj eW:FuncData} {p:Pm} (T:Txt K mg p) (bT:Dn K mg "_law_lowest" jW F1 g9 gj) (c5:Dn K mg "_law_part" j9 F4 fV eW) (pM:aW P w K mg base ee 1 fV eW F4 Aj):aW P w K mg base ee 2 g9 gj F1 (Eh K):=by
 refine bT.fn.ok oG (λvs H Q E h=>?_) (λcdv A outer s H vs Q E hr h=>?_)
 ·obtain⟨p,f,rfl,_⟩:=h
  rfl
 ·obtain⟨p,⟨a,b⟩,rfl,hf,ho,k⟩:=h
  have hb:0<b:=by have:=ho.pos;exact this
  have g1:=jB a hb
  have g2:=xH a hb
  have gS:Sm ((Int.gcd a b:Nat):Int):=Sm.le (Int.le_of_lt g1) g2 (uh ho.BE)
  refine⟨_,(ak (aE (i:=1) oG.nd rfl (Or.inl rfl) (aD pM (hr.mono (by decide)) rfl c5.m c5.fn.kp c5.b .nil bB (aa (ay (qp) rfl T.Bk xS (aa (aV bW (pv 0) aj (λ_ _=>rfl)) ah)) (aa (aV bW (pv 0) aj (λ_ _=>rfl)) ah))))
   (aq (aR (cU (aa (aB jH (aV bW (pv 0) aj (λ_ _=>rfl)) (pv 1)) (aa (aB jH (aV bW (pv 0) aj (λ_ _=>rfl)) (pv 1)) ah)))))),?_⟩
  refine⟨_,rfl,_,_,_,_,rfl,rfl,hf,rfl,_,rfl,_,rfl,_,_,_,_,rfl,rfl,hf,rfl,_,b,rfl,by split<;>omega,Int.le_of_lt hb,?_⟩
  rw[zC]
  refine⟨_,rfl,_,_,_,_,rfl,rfl,hf,rfl,_,rfl,_,_,rfl,rfl,⟨g1,gS.bg⟩,_,rfl,_,_,_,_,rfl,rfl,hf,rfl,_,rfl,_,_,rfl,rfl,⟨g1,gS.bg⟩,?_⟩
  exact⟨by show 2<=sizeLine;decide,λq hq=>k q hq⟩
theorem yW {fT gp:Addr} {eT fF:FuncData} {p:Pm} (T:Txt K mg p) (cZ:Dn K mg "_law_told" j7 JO fT eT) (dM:Dn K mg "read_prices" jw l7 gp fF) (vv:aW P w K mg base (sS P w) 9 gp fF l7 (Bx K p.au p.av)):aW P w K mg base ee 11 fT eT JO (tD K p.au):=by
 refine cZ.fn.ok kE (λvs H Q E h=>?_) (λcdv A outer s H vs Q E hr h=>?_)
 ·obtain⟨rs,rfl,_⟩:=h
  rfl
 ·obtain⟨rs,rfl,L,hk⟩:=h
  refine⟨_,(b4 (ED Ku (λ_ _ _ LT PO=>(aq (aE (i:=1) kE.nd rfl (Or.inl rfl) (cU (aa aI (aa (yT vv (hr.mono (by decide)) rfl dM.m dM.fn.kp dM.b .nil LT (aa (pv 0) ah)) ah)))))) (LP (i:=2) kE.nd rfl rfl rfl T.kY T.uS (λea=>(aq (aE (i:=1) kE.nd rfl (Or.inl rfl) (cU (aa aI (aa (pv 2) ah)))))) EG))
   (ak (ck (bw iP (aV bW (pv 1) aj (λ_ _=>rfl)) aI (bH _)) (ak (ck (PW.pt (m6 (cT (ay (vm) rfl T.aN aK (aa (aV bW (pv 1) aj (λ_ _=>rfl)) (aa (cU (aa (dI (v:=.ref p.fJ) rfl T.AQ rfl) (aa (dI (v:=.ref p.gJ) rfl T.C8 rfl) (aa (dI (v:=.ref p.bx) rfl T.jI rfl) (aa (dI (v:=.ref p.gI) rfl T.C7 rfl) ah))))) ah)))) (kW (jk (cT (ay (oU) rfl T.aN aK (aa (aV bW (pv 1) aj (λ_ _=>rfl)) (aa (c8 (v:=.ty "ValueError") rfl T.wF vn rfl) ah)))))))) (aq (aR (cU (aa aI (aa aj ah))))) aY)
   (aq (ck (cT (ay (oU) rfl T.aN aK (aa (aV bW (pv 1) aj (λ_ _=>rfl)) (aa (dI (v:=.ref p.av) rfl T.lF rfl) ah)))) (aq (aR (cU (aa aI (aa (GD (aV bW (pv 1) aj (λ_ _=>rfl)) rfl) ah))))) aY))) aY)
   (aq (aR (pv 1))))),?_⟩
  refine⟨λσ' H'=>ai H H'/\∃q,σ'=[some (.str (jn rs)),some (.ref q),none]/\SE K p.au p.av rs H' q,?_,?_⟩
  ·refine⟨_,rfl,rs,rfl,L,λprs fo fm hG=>⟨?_,λx H1 s1 hx hP=>?_⟩,λi hB dx H1 s1 hd=>?_⟩
   ·rcases hk with⟨GB,N6,N7,Sa,ub,_⟩|⟨i,hB,_⟩
    ·obtain⟨rfl,rfl,rfl⟩:=hG.uniq Sa
     exact ub
    ·exact(hG.AI hB).elim
   ·exact⟨by show 2<=sizeLine;decide,λq hq=>⟨s1.trans (ai.upd hq),q,rfl,.inl ⟨prs,fo,fm,x,hG,cL.of af,hP.same (ai.upd hq)⟩⟩⟩
   ·exact⟨_,_,rfl,T.nv,mh λea NV=>⟨_,rfl,by show 2<=sizeLine;decide,λq hq=>⟨(s1.trans (ai.upd NV)).trans (ai.upd hq),q,rfl,.inr ⟨ea,dx,i,cL.of af,ai.upd hq _ _ af,ai.upd hq _ _ (ai.upd NV _ _ hd),hB⟩⟩⟩⟩
  rintro σ' H1 ⟨s1,q,rfl,hW⟩
  have Ve:¬V.str (Str.ofString "read")=V.str (Str.ofString "no"):=by decide +kernel
  rcases hW with⟨prs,fo,fm,x,hG,hq,hP⟩|⟨ea,dx,i,hq,he,hd,hB⟩
  ·refine⟨_,rfl,q,_,_,_,rfl,rfl,hq,rfl,rfl,_,rfl,?_⟩
   rw[decide_eq_false Ve]
   refine jN ⟨_,rfl,?_⟩
   rcases hk with⟨GB,N6,N7,Sa,ub,kk⟩|⟨i,hB,_⟩
   ·obtain⟨rfl,rfl,rfl⟩:=hG.uniq Sa
    exact kk q x H1 s1 hq hP
   ·exact(hG.AI hB).elim
  ·have xt:=T.CH
   have k5:PySem.W.kitAny K (.ref p.av) ([p.fJ,p.gJ,p.bx,p.gI].map Value.ref)=some false:=qg T.qh (qg T.qW (qg T.pD (qg T.qV GX)))
   refine⟨_,rfl,q,_,_,_,rfl,rfl,hq,rfl,rfl,_,rfl,?_⟩
   rw[decide_eq_true rfl]
   refine mh ⟨_,rfl,q,_,_,_,rfl,rfl,hq,rfl,by show 4<=sizeLine;decide,λt1 ht1=>?_⟩
   have s2:ai H1 (upd H1 t1 (.tup [.ref p.fJ,.ref p.gJ,.ref p.bx,.ref p.gI])):=ai.upd ht1
   refine⟨ea,p.av,some dx,t1,[p.fJ,p.gJ,p.bx,p.gI],_,rfl,af,s2 _ _ he,.inr ⟨dx,_,rfl,s2 _ _ hd⟩,xt,k5,_,rfl,jN ?_⟩
   generalize upd H1 t1 (.tup [.ref p.fJ,.ref p.gJ,.ref p.bx,.ref p.gI])=H2 at s2 ⊢
   have hq2:=ai.tup s2 hq
   have K3:=s2 _ _ he
   have hd2:=s2 _ _ hd
   refine⟨_,rfl,q,_,_,_,rfl,rfl,hq2,rfl,ea,p.av,some dx,_,_,_,rfl,.inr ⟨_,rfl,rfl⟩,K3,.inr ⟨dx,_,rfl,hd2⟩,xt,T.nD,_,rfl,jK ?_⟩
   refine⟨_,rfl,q,_,_,_,rfl,rfl,hq2,rfl,ea,p.av,some dx,_,_,_,rfl,.inl ⟨_,rfl,rfl⟩,K3,.inr ⟨dx,_,rfl,hd2⟩,xt,T.qU,_,rfl,mh ?_⟩
   refine⟨_,rfl,q,_,_,_,rfl,rfl,hq2,rfl,ea,_,dx,_,_,rfl,K3,hd2,xt,T.kX,Dw,by show 2<=sizeLine;decide,λt ht=>?_⟩
   rcases hk with⟨prs,fo,fm,hG,_,_⟩|⟨i',Wa,kk⟩
   ·exact(hG.AI hB).elim
   ·rw[Wa.uniq hB]at kk
    exact kk t _ ((s1.trans s2).trans (ai.upd ht)) (cL.of af)
theorem yX {fU fT cX:Addr} {eV eT cE:FuncData} {p:Pm} (T:Txt K mg p) (b7:Dn K mg "_law_read" j8 JN fU eV) (cZ:Dn K mg "_law_told" j7 JO fT eT) (pL:aW P w K mg base ee 11 fT eT JO (tD K p.au)) (bE:Dn K mg "_law_same" jj F2 cX cE) (kr:aW P w K mg base ee 5 cX cE F2 (pP K 4)):aW P w K mg base ee 12 fU eV JN (pQ K):=by
 refine b7.fn.ok mU (λvs H Q E h=>?_) (λcdv A outer s H vs Q E hr h=>?_)
 ·obtain⟨rs,d,prs,fo,fm,rfl,_⟩:=h
  rfl
 ·obtain⟨rs,d,prs,fo,fm,rfl,L,hG,ub,hD,k⟩:=h
  refine⟨_,(ak (aE (i:=2) mU.nd rfl (Or.inl rfl) (aD pL (hr.mono (by decide)) rfl cZ.m cZ.fn.kp cZ.b .nil bB (aa (pv 0) ah)))
   (ak (ck (PW.pt (m6 (bw oK (aV bW (pv 2) aj (λ_ _=>rfl)) aI (bH _)) (kW (jk (cT (ay (xP) rfl T.aN aK (aa (aV bW (pv 2) aj (λ_ _=>rfl)) (aa (dI (v:=.ref p.au) rfl T.qR rfl) ah)))))))) (aq (aR pX)) aY)
   (ak (aE (i:=3) mU.nd rfl (Or.inl rfl) (aV bW (pv 2) aj (λ_ _=>rfl)))
   (aq (aR (aD kr (hr.mono (by decide)) rfl bE.m bE.fn.kp bE.b .nil bB (aa (cU (aa (fP (pv 3) rfl) (aa (fP (pv 3) rfl) (aa (fP (pv 3) rfl) (aa (fP (pv 3) rfl) ah))))) (aa (pv 1) ah)))))))),?_⟩
  refine⟨_,rfl,rs,rfl,L,.inl ⟨prs,fo,fm,hG,ub,λq x H1 s1 hq hP=>?_⟩⟩
  obtain⟨_,n8,_,_,_,_,_,dx,Pp,o,m,dd,kvs,hx,hM,hfo,hfm,_⟩:=hP
  refine⟨_,rfl,q,_,_,_,rfl,rfl,hq,rfl,rfl,_,rfl,?_⟩
  rw[decide_eq_true rfl]
  refine jK ⟨_,rfl,q,_,_,_,rfl,rfl,hq,rfl,x,p.au,dx,_,rfl,hx,T.Dq,_,rfl,jK ?_⟩
  refine⟨_,rfl,q,_,_,_,rfl,rfl,hq,rfl,?_⟩
  refine⟨_,rfl,x,_,_,_,_,rfl,hx,T.bu,T.i9,uA,_,rfl,x,_,_,_,_,rfl,hx,T.bu,T.gE,uB,_,rfl,x,_,_,_,_,rfl,hx,T.bu,T.fE,qk,_,rfl,x,_,_,_,_,rfl,hx,T.bu,T.iy,v9,by show 4<=sizeLine;decide,λt ht=>?_⟩
  have s2:ai H1 (upd H1 t (.tup [.str (f6 rs),.ref Pp,.ref o,.ref m])):=ai.upd ht
  obtain⟨P',o',m',d1,d2,d3,d4⟩:=hD.same (s1.trans s2)
  refine⟨_,rfl,.ref t,.ref d,rfl,?_,λH5 s5=>k H5 ((s1.trans s2).trans s5)⟩
  have Fi:=L.small
  refine mK.four (cL.of af) d1 (.flat (.inl ⟨_,rfl,rfl⟩)) (mK.Q5 (hM.dat (Dat.of s2)) d2 (by rw[n8.1];omega) λr hr=>by rw[n8.2 r hr];omega) (mK.Sl (hfo.same s2) d3) (mK.Sl (hfm.same s2) d4)
end
section
open PySem.NumText
variable{P:Program}{w:World}{K:PySem.W.Frag}{mg:Str->Option Value}{base:Heap}
theorem xr {iQ fU:Addr} {gX eV:FuncData} {p:Pm} (T:Txt K mg p) (fL:Dn K mg "_law_sixty" kG Mf iQ gX) (b7:Dn K mg "_law_read" j8 JN fU eV) (mw:aW P w K mg base ee 12 fU eV JN (pQ K)):aW P w K mg base ee 13 iQ gX Mf (Bt K):=by
 refine fL.fn.ok fO (λvs H Q E h=>?_) (λcdv A outer s H vs Q E hr h=>?_)
 ·obtain⟨m,l,d,sg,R,fo,fm,rfl,_⟩:=h
  rfl
 ·obtain⟨m,l,d,sg,R,fo,fm,rfl,hm,hl,hD,TB,k⟩:=h
  obtain⟨r0,Rt,rfl⟩:∃r0 Rt,R=r0::Rt:=by
   cases R with
   |nil=>have h1:=TB.n8.1;have h2:=TB.sig.1;simp at h1;omega
   |cons a t=>exact⟨a,t,rfl⟩
  obtain⟨f0,rt,rfl⟩:∃f0 rt,r0=f0::rt:=by
   cases r0 with
   |nil=>have h1:=TB.n8.2 [] List.mem_cons_self;have h2:=TB.sig.1;simp at h1;omega
   |cons a t=>exact⟨a,t,rfl⟩
  have QS:∀r∈(f0::rt)::Rt,∀f∈r,cY f:=λr hr f hf=>(TB.ok r hr f hf).fr
  have r9:=TB.sm
  have hrl:(f0::rt).length<=11:=by rw[TB.n8.2 _ List.mem_cons_self];exact r9
  have NZ:((f0::rt)::Rt).length<=11:=by rw[TB.n8.1];exact r9
  simp only[List.length_cons]at hrl NZ
  refine⟨_,(ak (aE (i:=3) fO.nd rfl (Or.inl rfl) (aB gu (aB qL aj aj) (aB cA (pv 0) aj)))
   (b4 (lT (aV bG (fk (aa (cU (aa (cM (fX) rfl T.lq jt (aa (pv 3) ah)) (aa (cU (aa (pv 3) (aa aj ah))) ah))) (aa (cU (aa (aB bK aI (cM (fX) rfl T.lq jt (aa (pv 3) ah))) (aa (cU (aa (EH Ac aj) (aa (pv 3) ah))) ah))) (aa (cU (aa (aB bK aI (cM (fX) rfl T.lq jt (aa (pv 3) ah))) (aa (cU (aa (EH Ac (pv 3)) (aa aj ah))) ah))) ah)))) (aB cA (pv 0) aj) (λ_ _=>rfl)) (tU (n:=2) rfl (iw (bD (i:=4) fO.nd rfl (Or.inl rfl)) (iw (bD (i:=5) fO.nd rfl (Or.inl rfl)) pW))))
   (b4 (aE (i:=6) fO.nd rfl (Or.inl rfl) (gD PySem.F.plainAttrs_str PySem.F.slot_str_split PySem.F.type_str_split lE (aV bG (pv 1) aj (λ_ _=>rfl)) (aa aI ah)))
   (b4 (aE (i:=7) fO.nd rfl (Or.inl rfl) (aB m8 (fk (aa (aV bG (pv 1) aj (λ_ _=>rfl)) (aa (gD PySem.F.plainAttrs_str PySem.F.slot_str_join PySem.F.type_str_join (iz rfl) aI (aa (aB m8 (fk (aa (pv 4) ah)) (lB wV (pv 6) (nU aj) nV)) ah)) ah))) (lB wV (pv 1) (nU aj) nV)))
   (b4 (aE (i:=8) fO.nd rfl (Or.inl rfl) (aB yU (cU (aa (pv 5) ah)) (lB En (aV bW (aV bW (pv 2) aj (λ_ _=>rfl)) aj (λ_ _=>rfl)) (nU aj) nV)))
   (aq (aR (aD mw (hr.mono (by decide)) rfl b7.m b7.fn.kp b7.b .nil bB (aa (gD PySem.F.plainAttrs_str PySem.F.slot_str_join PySem.F.type_str_join (iz rfl) aI (aa (pv 7) ah)) (aa (cU (aa (aV bW (pv 2) aj (λ_ _=>rfl)) (aa (aB yU (cU (aa (pv 8) ah)) (lB En (aV bW (pv 2) aj (λ_ _=>rfl)) (nU aj) nV)) (aa (aV bW (pv 2) aj (λ_ _=>rfl)) (aa (aV bW (pv 2) aj (λ_ _=>rfl)) ah))))) ah)))))))))),?_⟩
  refine⟨_,_,rfl,rfl,⟨by decide,by decide,by decide⟩,_,rfl,_,_,rfl,rfl,(by show(0:Int)<_;decide),_,_,rfl,rfl,?_⟩
  have Ss:(10:Int) ^ (59:Int).toNat=10 ^ 59:=rfl
  have hm1:=Int.emod_nonneg m (show(1000003:Int)≠0 by decide)
  have hm2:=Int.emod_lt_of_pos m (show(0:Int)<1000003 by decide)
  obtain⟨G,V7,N3,N2⟩:∃G:Int,G=(10:Int) ^ (59:Int).toNat+m % 1000003/\1<G/\G<10 ^ 60:=⟨_,rfl,by rw[Ss];omega,by rw[Ss];omega⟩
  have ML:G.natAbs<10 ^ 60:=by omega
  have R9:=wZ ML
  obtain⟨xa,ya⟩:=Lw N3 N2
  obtain⟨xb,yb⟩:=Lv N3 N2
  obtain⟨xc,yc⟩:=Lu N3 N2
  subst V7
  refine⟨λσ H'=>∃g q,zQ g/\σ=[some (.int m),some (.ref l),some (.ref d),some (.int ((10:Int) ^ (59:Int).toNat+m % 1000003)),some (.str (sW g)),some (.ref q),none,none,none]/\ai H H'/\H' q=some (.tup [.int g.1,.int g.2]),?_,?_⟩
  ·have l2:2<=sizeLine:=by decide
   refine⟨_,rfl,_,rfl,lY ML,_,rfl,l2,λp1 hp1=>⟨l2,λt1 ht1=>?_⟩⟩
   refine⟨_,rfl,_,rfl,lY ML,_,_,rfl,rfl,Nat.le_trans (Nat.add_le_add_left R9 3) (by decide),_,rfl,_,rfl,l2,λp2 hp2=>⟨l2,λt2 Ib=>?_⟩⟩
   refine⟨_,rfl,_,rfl,lY ML,_,_,rfl,rfl,Nat.le_trans (Nat.add_le_add_left R9 1) (by decide),_,rfl,_,rfl,l2,λp3 hp3=>⟨l2,λt3 NP=>?_⟩⟩
   refine⟨by show 3<=sizeLine;decide,λl3 hl3=>?_⟩
   obtain⟨F,hF,sF,f1,g1,f2,g2,f3,g3,fl⟩:=MG (.lst [.ref t1,.ref t2,.ref t3]) hp1 ht1 hp2 Ib hp3 NP hl3
   rw[←hF]
   refine⟨_,rfl,_,_,rfl,rfl,(by show(0:Int)<_;decide),?_⟩
   have h3:m % 3=0\/m % 3=1\/m % 3=2:=by omega
   rcases h3 with h3|h3|h3
   ·exact⟨l3,_,_,.ref t1,rfl,rfl,bX.of fl,by rw[h3];rfl,t1,_,rfl,cL.of g1,rfl,_,_,rfl,_,_,rfl,rfl,_,p1,xa,by rw[ya];rfl,sF,f1⟩
   ·exact⟨l3,_,_,.ref t2,rfl,rfl,bX.of fl,by rw[h3];rfl,t2,_,rfl,cL.of g2,rfl,_,_,rfl,_,_,rfl,rfl,_,p2,xb,by rw[yb];rfl,sF,f2⟩
   ·exact⟨l3,_,_,.ref t3,rfl,rfl,bX.of fl,by rw[h3];rfl,t3,_,rfl,cL.of g3,rfl,_,_,rfl,_,_,rfl,rfl,_,p3,xc,by rw[yc];rfl,sF,f3⟩
  rintro σ H1 ⟨g,q,hg,rfl,s1,hq⟩
  generalize (10:Int) ^ (59:Int).toNat+m % 1000003=G
  clear xa ya xb yb xc yc R9 ML N3 N2 hm1 hm2 Ss
  have hl1:=s1 _ _ hl
  have UY:∀p∈(f0::rt).map sW,32∉p.cps.toList:=λp hp=>by
   obtain⟨f,hf,rfl⟩:=List.mem_map.mp hp
   exact lA (QS _ List.mem_cons_self f hf) (by omega)
  have hj0:=xB (QS _ List.mem_cons_self) (show(f0::rt).length<=12 by simp only[List.length_cons];omega)
  refine⟨λσ H'=>∃l1,σ=[some (.int m),some (.ref l),some (.ref d),some (.int G),some (.str (sW g)),some (.ref q),some (.ref l1),none,none]/\ai H1 H'/\H' l1=some (.lst (((f0::rt).map sW).map V.str)),?_,?_⟩
  ·refine⟨_,rfl,l,_,_,.str (jb ((f0::rt).map sW)),rfl,rfl,bX.of hl1,bO (j:=1) rfl,rfl,_,32,rfl,rfl,Nat.le_trans hj0 (by decide),λl1 TU=>?_⟩
   rw[uq (by simp) UY]
   exact⟨l1,rfl,ai.upd TU,af⟩
  rintro σ H2 ⟨l1,rfl,s2,hp⟩
  have hl2:=s2 _ _ hl1
  refine⟨λσ H'=>∃l4,σ=[some (.int m),some (.ref l),some (.ref d),some (.int G),some (.str (sW g)),some (.ref q),some (.ref l1),some (.ref l4),none]/\ai H2 H'/\H' l4=some (.lst ((gy sg ((g::rt)::Rt) fo fm).map V.str)),?_,?_⟩
  ·refine⟨_,rfl,l,_,_,.str sg,rfl,rfl,bX.of hl2,bO (j:=0) rfl,?_⟩
   refine⟨rfl,_,rfl,by show 1<=sizeLine;decide,λa1 ha1=>?_⟩
   have sA:ai H2 (upd H2 a1 (.lst [.str (sW g)])):=ai.upd ha1
   have hA:upd H2 a1 (.lst [.str (sW g)]) a1=some (.lst [.str (sW g)]):=af
   generalize upd H2 a1 (.lst [.str (sW g)])=HA at sA hA ⊢
   refine⟨_,rfl,1,rfl,l1,_,rfl,bX.of (sA _ _ hp),λa2 ha2=>?_⟩
   rw[show qY (((f0::rt).map sW).map V.str) (some 1) none=(rt.map sW).map V.str from nH (n:=1) (by simp)]
   have sB:ai HA (upd HA a2 (.lst ((rt.map sW).map V.str))):=ai.upd ha2
   have hB:upd HA a2 (.lst ((rt.map sW).map V.str)) a2=some (.lst ((rt.map sW).map V.str)):=af
   generalize upd HA a2 (.lst ((rt.map sW).map V.str))=HB at sB hB ⊢
   refine⟨a1,a2,_,_,rfl,rfl,sB _ _ hA,hB,?_,λa3 VY=>?_⟩
   ·rw[List.length_map,List.length_map]
    exact Nat.le_trans (show 1+rt.length<=20 by omega) (by decide)
   rw[show [V.str (sW g)]++(rt.map sW).map V.str=((g::rt).map sW).map V.str from rfl]
   have sC:ai HB (upd HB a3 (.lst (((g::rt).map sW).map V.str))):=ai.upd VY
   have hC:upd HB a3 (.lst (((g::rt).map sW).map V.str)) a3=some (.lst (((g::rt).map sW).map V.str)):=af
   generalize upd HB a3 (.lst (((g::rt).map sW).map V.str))=HC at sC hC ⊢
   have S2:=(sA.trans sB).trans sC
   refine⟨_,a3,(g::rt).map sW,rfl,rfl,.inl (bX.of hC),by decide,λz hz=>?_,?_,by show 2<=sizeLine;decide,λa4 VX=>?_⟩
   ·obtain⟨f,hf,rfl⟩:=List.mem_map.mp hz
    refine Nat.le_trans (mY ?_) (by decide)
    rcases List.mem_cons.mp hf with rfl|hf
    ·exact hg.1
    ·exact QS _ List.mem_cons_self f (List.mem_cons_of_mem _ hf)
   ·rw[List.length_map]
    exact Nat.le_trans (show rt.length+1<=20 by omega) (by decide)
   rw[show Str.join (Str.ofString " ") ((g::rt).map sW)=jb ((g::rt).map sW) from rfl]
   have sD:ai HC (upd HC a4 (.lst [.str sg,.str (jb ((g::rt).map sW))])):=ai.upd VX
   have Ui:upd HC a4 (.lst [.str sg,.str (jb ((g::rt).map sW))]) a4=some (.lst [.str sg,.str (jb ((g::rt).map sW))]):=af
   generalize upd HC a4 (.lst [.str sg,.str (jb ((g::rt).map sW))])=HD at sD Ui ⊢
   refine⟨_,rfl,2,rfl,l,_,rfl,bX.of ((S2.trans sD) _ _ hl2),λa5 VW=>?_⟩
   rw[show qY ((gy sg ((f0::rt)::Rt) fo fm).map V.str) (some 2) none=(Rt.map (λr=>jb (r.map sW))++[jb [sW fo,sW fm]]).map V.str from nH (n:=2) (by rw[List.length_map,j5];omega)]
   have sE:ai HD (upd HD a5 (.lst ((Rt.map (λr=>jb (r.map sW))++[jb [sW fo,sW fm]]).map V.str))):=ai.upd VW
   have hE:upd HD a5 (.lst ((Rt.map (λr=>jb (r.map sW))++[jb [sW fo,sW fm]]).map V.str)) a5=some (.lst ((Rt.map (λr=>jb (r.map sW))++[jb [sW fo,sW fm]]).map V.str)):=af
   generalize upd HD a5 (.lst ((Rt.map (λr=>jb (r.map sW))++[jb [sW fo,sW fm]]).map V.str))=HE at sE hE ⊢
   refine⟨a4,a5,_,_,rfl,rfl,sE _ _ Ui,hE,?_,λa6 VV=>⟨a6,rfl,((S2.trans sD).trans sE).trans (ai.upd VV),af⟩⟩
   rw[List.length_map,List.length_append,List.length_map]
   exact Nat.le_trans (show 2+(Rt.length+1)<=20 by omega) (by decide)
  rintro σ H3 ⟨l4,rfl,s3,hb⟩
  have KU:=(s1.trans s2).trans s3
  obtain⟨Pd,o,mo,hd1,⟨qs,T9,hpq⟩,hdo,VS⟩:=hD.same KU
  cases hpq with
  | @cons q0 _ qt _ VD TF =>
  obtain⟨ps,VC,hpp⟩:=VD
  cases hpp with
  | @cons pf _ pr _ hpf F5 =>
  have NR:eB K H3 q g:=cL.of ((s2.trans s3) _ _ hq)
  refine⟨λσ H'=>∃l5,σ=[some (.int m),some (.ref l),some (.ref d),some (.int G),some (.str (sW g)),some (.ref q),some (.ref l1),some (.ref l4),some (.ref l5)]/\ai H3 H'/\cL K H' l5 (.ref q::pr.map V.ref),?_,?_⟩
  ·refine⟨_,rfl,by show 1<=sizeLine;decide,λb1 hb1=>?_⟩
   have sA:ai H3 (upd H3 b1 (.tup [.ref q])):=ai.upd hb1
   have hA:upd H3 b1 (.tup [.ref q]) b1=some (.tup [.ref q]):=af
   generalize upd H3 b1 (.tup [.ref q])=HA at sA hA ⊢
   refine⟨_,rfl,d,_,_,.ref Pd,rfl,rfl,ai.tup sA hd1,bO (j:=1) rfl,Pd,_,_,.ref q0,rfl,rfl,ai.tup sA T9,bO (j:=0) rfl,1,rfl,q0,_,rfl,ai.tup sA VC,?_,λb2 hb2=>?_⟩
   ·rintro⟨z,_⟩
    have z':min 1 (pr.length+1)=0:=by rw[←z];exact(HT.wY _ _ 1).symm▸(by simp)
    omega
   rw[show qY ((pf::pr).map V.ref) (some 1) none=pr.map V.ref from nH (n:=1) (by simp)]
   have sB:ai HA (upd HA b2 (.tup (pr.map V.ref))):=ai.upd hb2
   have hB:upd HA b2 (.tup (pr.map V.ref)) b2=some (.tup (pr.map V.ref)):=af
   generalize upd HA b2 (.tup (pr.map V.ref))=HB at sB hB ⊢
   refine .inl ⟨b1,b2,_,_,rfl,rfl,cL.of (sB _ _ hA),cL.of hB,by simp,?_,λz=>⟨b1,rfl,sA.trans sB,?_⟩,λz b3 Km=>⟨b3,rfl,(sA.trans sB).trans (ai.upd Km),cL.of af⟩⟩
   ·have:=Paired.len F5
    rw[List.length_map]at this ⊢
    exact Nat.le_trans (show 1+pr.length<=20 by omega) (by decide)
   ·rw[z]
    exact cL.of (sB _ _ hA)
  rintro σ H4 ⟨l5,rfl,s4,hline⟩
  have VU:=s4 _ _ hb
  obtain⟨Qy,LU,UI⟩:=Gr TB hg
  have WH:=s3.trans s4
  have NG:=KU.trans s4
  refine⟨rfl,_,rfl,_,l4,gy sg ((g::rt)::Rt) fo fm,rfl,rfl,.inl (bX.of VU),by decide,sL Qy (by omega) LU TB.pY.fr TB.pq.fr,?_,?_⟩
  ·rw[j5]
   exact Nat.le_trans (show Rt.length+1+2<=20 by omega) (by decide)
  refine⟨_,rfl,d,_,_,.str sg,rfl,rfl,ai.tup s4 hd1,bO (j:=0) rfl,?_⟩
  refine⟨_,rfl,by show 1<=sizeLine;decide,λc1 hc1=>?_⟩
  have sA:ai H4 (upd H4 c1 (.tup [.ref l5])):=ai.upd hc1
  have hA:upd H4 c1 (.tup [.ref l5]) c1=some (.tup [.ref l5]):=af
  generalize upd H4 c1 (.tup [.ref l5])=HA at sA hA ⊢
  refine⟨_,rfl,d,_,_,.ref Pd,rfl,rfl,ai.tup (s4.trans sA) hd1,bO (j:=1) rfl,1,rfl,Pd,_,rfl,ai.tup (s4.trans sA) T9,?_,λc2 hc2=>?_⟩
  ·rintro⟨z,_⟩
   have z':min 1 (qt.length+1)=0:=by rw[←z];exact(HT.wY _ _ 1).symm▸(by simp)
   omega
  rw[show qY ((q0::qt).map V.ref) (some 1) none=qt.map V.ref from nH (n:=1) (by simp)]
  have sB:ai HA (upd HA c2 (.tup (qt.map V.ref))):=ai.upd hc2
  have hB:upd HA c2 (.tup (qt.map V.ref)) c2=some (.tup (qt.map V.ref)):=af
  generalize upd HA c2 (.tup (qt.map V.ref))=HB at sB hB ⊢
  have fin:∀(P':Addr) (H5:Hp),ai HB H5->cL K H5 P' (.ref l5::qt.map V.ref)->∀(t:Addr),cL K (upd H5 t (.tup [.str sg,.ref P',.ref o,.ref mo])) t [.str sg,.ref P',.ref o,.ref mo]->H5 t=none->pQ K [.str (jn (gy sg ((g::rt)::Rt) fo fm)),.ref t] (upd H5 t (.tup [.str sg,.ref P',.ref o,.ref mo])) Q E0:=λP' H5 s5 V3 t hT ht=>by
   have sT:ai H5 (upd H5 t (.tup [.str sg,.ref P',.ref o,.ref mo])):=ai.upd ht
   have Js:ai H4 (upd H5 t (.tup [.str sg,.ref P',.ref o,.ref mo])):=((sA.trans sB).trans s5).trans sT
   have LH:=s4.trans Js
   have i6:gU (gU ((g::rt)::Rt))=gU ((g::rt)::Rt):=by
    unfold gU
    rw[List.map_map]
    exact List.map_congr_left λr hr=>by
     show(r.map aZ).map aZ=r.map aZ
     rw[List.map_map]
     exact List.map_congr_left λf hf=>gF (by have:=(LU r hr f hf).pos;omega)
   have io:aZ (aZ fo)=aZ fo:=gF (by have:=TB.pY.1;omega)
   have im:aZ (aZ fm)=aZ fm:=gF (by have:=TB.pq.1;omega)
   refine⟨_,t,gU ((g::rt)::Rt),aZ fo,aZ fm,rfl,E3 TB.sig (by omega) Qy LU TB.pY.fr TB.pq.fr,Ci TB.sig Qy LU TB.pY.fr TB.pq.fr,D5 UI LU TB.pY.fr TB.pq.fr,?_,λH9 s9=>k H9 ((NG.trans Js).trans s9)⟩
   rw[i6,io,im]
   refine⟨P',o,mo,hT,⟨l5::qt,ai.tup sT V3,.cons ⟨q::pr,ai.tup Js hline,.cons ?_ ?_⟩ ?_⟩,hdo.same LH,VS.same LH⟩
   ·rw[hg.2]
    exact NR.same LH
   ·exact Paired.iW F5 λa b z=>z.same LH
   ·exact Paired.iW TF λa b z=>z.same LH
  have go:∀(P':Addr) (H5:Hp),ai HB H5->cL K H5 P' (.ref l5::qt.map V.ref)->cL K H5 d [.str sg,.ref Pd,.ref o,.ref mo]:=λP' H5 s5 _=>ai.tup (((s4.trans sA).trans sB).trans s5) hd1
  refine .inl ⟨c1,c2,_,_,rfl,rfl,cL.of (sB _ _ hA),cL.of hB,by simp,?_,λz=>?_,λz c3 hc3=>?_⟩
  ·have:=Paired.len TF
   unfold gU at this
   rw[List.length_map]at this ⊢
   exact Nat.le_trans (show 1+qt.length<=20 by omega) (by decide)
  ·have h5:cL K HB c1 (.ref l5::qt.map V.ref):=by rw[z];exact cL.of (sB _ _ hA)
   have Kl:=go c1 HB (ai.refl _) h5
   exact⟨_,rfl,d,_,_,.ref o,rfl,rfl,Kl,bO (j:=2) rfl,_,rfl,d,_,_,.ref mo,rfl,rfl,Kl,bO (j:=3) rfl,by show 4<=sizeLine;decide,λt ht=>fin c1 HB (ai.refl _) h5 t (cL.of af) ht⟩
  ·have s5:ai HB (upd HB c3 (.tup ([.ref l5]++qt.map V.ref))):=ai.upd hc3
   have h5:cL K (upd HB c3 (.tup ([.ref l5]++qt.map V.ref))) c3 (.ref l5::qt.map V.ref):=cL.of af
   have Kl:=go c3 _ s5 h5
   exact⟨_,rfl,d,_,_,.ref o,rfl,rfl,Kl,bO (j:=2) rfl,_,rfl,d,_,_,.ref mo,rfl,rfl,Kl,bO (j:=3) rfl,by show 4<=sizeLine;decide,λt ht=>fin c3 _ s5 h5 t (cL.of af) ht⟩
end
section
open PySem.NumText
variable{P:Program}{w:World}{K:PySem.W.Frag}{mg:Str->Option Value}{base:Heap}
theorem vc {g8 bR:Addr} {gi bI:FuncData} {p:Pm} (T:Txt K mg p) (e7:Dn K mg "_law_spoilt" jV Me g8 gi) (aQ:Dn K mg "_law_next" gB l6 bR bI) (fY:aW P w K mg base ee 1 bR bI l6 (qD K)):aW P w K mg base ee 2 g8 gi Me (tE K):=by
 refine e7.fn.ok cg (λvs H Q E h=>?_) (λcdv A outer s H vs Q E hr h=>?_)
 ·obtain⟨s,t,ns,k,l,sg,R,fo,fm,rfl,_⟩:=h
  rfl
 ·obtain⟨s,t,ns,k,l,sg,R,fo,fm,rfl,hC,hk,HP,hl,TB,kk⟩:=h
  have hn0:=TB.sig.1
  have r9:=TB.sm
  have hlen:=TB.length
  have hzs:sg.length<=sizeLine:=Nat.le_trans r9 (by decide)
  refine⟨_,(ak (aE (i:=3) cg.nd rfl (Or.inl rfl) (aD fY (hr.mono (by decide)) rfl aQ.m aQ.fn.kp aQ.b .nil bB (aa (pv 0) (aa (pv 1) ah))))
   (ak (aE (i:=4) cg.nd rfl (Or.inl rfl) (cM (xO) rfl T.sU qu (aa (pv 2) ah)))
   (ak (aE (i:=5) cg.nd rfl (Or.inl rfl) (ay (bL) rfl T.dG b6 (aa (aV bG (pv 2) aj (λ_ _=>rfl)) ah)))
   (ak (aE (i:=6) cg.nd rfl (Or.inl rfl) (aB gu aj (aB cA (aB gw (pv 3) aj) (aB gu (pv 5) aj))))
   (b4 (aE (i:=7) cg.nd rfl (Or.inl rfl) (gD PySem.F.plainAttrs_str PySem.F.slot_str_split PySem.F.type_str_split lE (aV bG (pv 4) (pv 6) (λ_ _=>rfl)) (aa aI ah)))
   (ak (ck (bw iP (aB cA (pv 3) aj) aj (bH _)) (ak (aE (i:=8) cg.nd rfl (Or.inl rfl) (aV bG (pv 2) aj (λ_ _=>rfl)))
   (ak (lT (aV bG (fk (aH aI (aH (aB bK (pv 8) (aV Fb (pv 8) (aB cA (aB gw (pv 3) aj) (pv 5)) (λ_ _=>rfl))) (aH (aB bK (pv 8) aI) (aH (aB bK aI (pv 8)) ah))))) (aB cA (aB gw (pv 3) aj) aj) (λ_ _=>rfl)) (o7 (pv 4) aj set_list))
   (aq (aR (cU (aa (pv 4) (aa aj ah))))))) aY)
   (ak (ck (bw iP (aB cA (pv 3) aj) aj (bH _)) (ak (gR (gD PySem.F.plainAttrs_list PySem.F.slot_list_pop PySem.F.type_list_pop ES (pv 4) (aa (pv 6) ah)))
   (aq (aR (cU (aa (pv 4) (aa (kg (PW.pt (m6 (bw iP (pv 5) aj (bH _)) (kW (bw iP (pv 6) (aB gu (pv 5) aj) (bH _))))) (aB gu (pv 5) aj) (pv 5)) ah)))))) aY)
   (ak (ck (bw iP (aB cA (pv 3) aj) aj (bH _)) (aq (aR (cU (aa (aB m8 (pv 4) (fk (aa (aV bG (fk (aa aI (aa aI (aa (aV bG (pv 2) aj (λ_ _=>rfl)) ah)))) (aB cA (aB gw (pv 3) aj) aj) (λ_ _=>rfl)) ah))) (aa (aB gu (pv 5) aj) ah))))) aY)
   (ak (ck (bw iP (aB cA (pv 3) aj) aj (bH _)) (ak (lT (aV bG (fk (aH (gD PySem.F.plainAttrs_str PySem.F.slot_str_join PySem.F.type_str_join (iz rfl) aI (aH (lB wV (pv 7) (nU aj) nV) ah)) (aH (aB bK (aV bG (pv 4) (pv 6) (λ_ _=>rfl)) aI) (aH (aB bK (aV bG (pv 4) (pv 6) (λ_ _=>rfl)) aI) (aH (aB bK aI (aV bG (pv 4) (pv 6) (λ_ _=>rfl))) ah))))) (aB cA (aB gw (pv 3) aj) aj) (λ_ _=>rfl)) (o7 (pv 4) (pv 6) set_list))
   (aq (aR (cU (aa (pv 4) (aa (pv 6) ah)))))) aY)
   (b4 (aE (i:=9) cg.nd rfl (Or.inl rfl) (fk (aH aI (aH aI (aH aI (aH aI (aH aI (aH aI (aH aI (aH aI (aH aI (aH aI (aH aI (aH aI (aH aI (aH aI (aH aI (aH aI ah))))))))))))))))))
   (b4 (aE (i:=10) cg.nd rfl (Or.inl rfl) (aB cA (aB gw (pv 3) aj) (ay (bL) rfl T.dG b6 (aa (pv 7) ah))))
   (b4 (aE (i:=9) cg.nd rfl (Or.inl rfl) (aB m8 (pv 9) (fk (aH aI (aH aI (aH aI (aH aI (aH aI (aH (aB bK aI (aB BS aI aj)) (aH (aB bK aI (aB BS aI aj)) ah))))))))))
   (b4 (aE (i:=9) cg.nd rfl (Or.inl rfl) (aB m8 (pv 9) (fk (aH aI (aH aI (aH aI (aH aI (aH aI ah))))))))
   (ak (lT (aV bG (pv 9) (aB cA (aB gw (pv 3) aj) aj) (λ_ _=>rfl)) (o7 (pv 7) (pv 10) set_list))
   (ak (lT (gD PySem.F.plainAttrs_str PySem.F.slot_str_join PySem.F.type_str_join (iz rfl) aI (aa (pv 7) ah)) (o7 (pv 4) (pv 6) set_list))
   (aq (aR (cU (aa (pv 4) (aa (pv 6) ah)))))))))))))))))))),?_⟩
  refine⟨_,rfl,_,rfl,s,t,ns,k,rfl,hC,hk,λm hm hm2=>?_⟩
  have hl1:upd H t (.lst [.int (k+1)]) l=some (.lst ((gy sg R fo fm).map V.str)):=by rw[az HP];exact hl
  generalize upd H t (.lst [.int (k+1)])=H1 at hl1 kk ⊢
  refine⟨_,rfl,l,_,rfl,.inl (bX.of hl1),λa0 ha0=>?_⟩
  have s2:ai H1 (upd H1 a0 (.lst ((gy sg R fo fm).map V.str))):=ai.upd ha0
  have h0:upd H1 a0 (.lst ((gy sg R fo fm).map V.str)) a0=some (.lst ((gy sg R fo fm).map V.str)):=af
  generalize upd H1 a0 (.lst ((gy sg R fo fm).map V.str))=H2 at s2 h0 ⊢
  have hl2:=s2 _ _ hl1
  refine⟨_,rfl,l,_,_,.str sg,rfl,rfl,bX.of hl2,bO (j:=0) rfl,_,_,rfl,⟨hzs,rfl⟩,?_⟩
  refine⟨_,rfl,_,_,rfl,rfl,⟨by decide,by decide⟩,_,rfl,_,_,rfl,rfl,_,_,rfl,rfl,(by show(0:Int)<((sg.cps.size:Nat):Int)+1;omega),_,_,rfl,rfl,?_⟩
  obtain⟨kN,hkN,k1,k2⟩:∃kN:Nat,1+m / 6 % (((sg.length:Nat):Int)+1)=(kN:Int)/\1<=kN/\kN<=sg.cps.size+1:=by
   have a1:=Int.emod_nonneg (m / 6) (show((sg.cps.size:Nat):Int)+1≠0 by omega)
   have a2:=Int.emod_lt_of_pos (m / 6) (show(0:Int)<((sg.cps.size:Nat):Int)+1 by omega)
   refine⟨(1+m / 6 % (((sg.cps.size:Nat):Int)+1)).toNat,?_,by omega,by omega⟩
   rw[Int.toNat_of_nonneg (by omega)]
   rfl
  obtain⟨fs,zA,hfl,RP,RS,hfo⟩:=TB.row k1 k2
  have hps:∀p∈fs.map sW,Cl p:=λp hp=>by
   obtain⟨f,hf,rfl⟩:=List.mem_map.mp hp
   exact(hfo f hf).cl
  have hpl:(fs.map sW).length=Bm sg.cps.size kN:=by rw[List.length_map];exact hfl
  have RA:(fs.map sW).length<=12:=by rw[List.length_map];exact RS
  have AY:fs.map sW≠[]:=by simpa using RP
  generalize fs.map sW=ps at zA hps hpl RA AY
  have VN:=B5 hps (by omega)
  refine⟨λσ H'=>∃a1,σ=[some (.ref s),some (.ref t),some (.ref l),some (.int m),some (.ref a0),some (.int ((sg.length:Nat):Int)),some (.int (kN:Int)),some (.ref a1),none,none,none]/\a1≠a0/\H2 a1=none/\ai H2 H'/\H' a1=some (.lst (ps.map V.str)),?_,?_⟩
  ·refine⟨_,rfl,_,rfl,a0,_,_,.str (jb ps),rfl,rfl,bX.of h0,?_,rfl,_,32,rfl,rfl,Nat.le_trans VN (by decide),λa1 ha1=>?_⟩
   ·show A9 _ (1+m / 6 % (((sg.length:Nat):Int)+1))=_
    rw[hkN]
    exact bO (by rw[List.getElem?_map,zA];rfl)
   ·rw[uq AY λp hp=>(hps p hp).a]
    exact⟨a1,by rw[←hkN];rfl,(λz=>by rw[z,h0]at ha1;cases ha1),ha1,ai.upd ha1,af⟩
  rintro σ H3 ⟨a1,rfl,Vj,RZ,s3,hp3⟩
  have hl3:=s3 _ _ hl2
  have K5:=s3 _ _ h0
  have DO:=s2.trans s3
  have fin:∀(rows:List Str) (i:Nat) (H5:Hp) (b:Addr),KJ sg rows i->ai H1 H5->H5 b=some (.lst (rows.map V.str))->∀q,H5 q=none->Q (.ref q) (upd H5 q (.tup [.ref b,.int (i:Int)])):=λrows i H5 b hS s5 hb q hq=>kk q b rows i _ hS (s5.trans (ai.upd hq)) af (ai.upd hq _ _ hb)
  refine⟨_,rfl,_,_,rfl,rfl,(by show(0:Int)<_;decide),rfl,_,rfl,?_⟩
  refine jo (λc0=>?_) λc0=>?_
  ·-- WE signs
   refine⟨_,rfl,l,_,_,.str sg,rfl,rfl,bX.of hl3,bO (j:=0) rfl,?_⟩
   obtain⟨iN,TY,i2⟩:∃iN:Nat,m / 6 % ((sg.length:Nat):Int)=(iN:Int)/\iN<sg.cps.size:=by
    have b1:=Int.emod_nonneg (m / 6) (show((sg.cps.size:Nat):Int)≠0 by omega)
    have b2:=Int.emod_lt_of_pos (m / 6) (show(0:Int)<((sg.cps.size:Nat):Int) by omega)
    refine⟨(m / 6 % ((sg.cps.size:Nat):Int)).toNat,?_,by omega⟩
    rw[Int.toNat_of_nonneg b1]
    rfl
   have hcl:iN<sg.cps.toList.length:=by rw[Array.length_toList];exact i2
   have NX:sg.cps.toList[iN]∈sg.cps.toList:=List.getElem_mem hcl
   have hca:=pS (TB.sig.2.2.1 _ NX)
   have hb1:=Fl (c:=sg.cps.toList[iN]) TB.sig r9 (by omega) (by omega) (.inl NX)
   have hb2:=Fl (c:=45) TB.sig r9 (by decide) (by decide) (.inr (by decide +kernel))
   have Km:=Kg (c:=34) TB.sig r9 (by decide) (by decide) (by decide +kernel)
   have hz1:∀n:Nat,n<=20->n<=sizeLine:=λn hn=>Nat.le_trans hn (by decide)
   refine⟨_,rfl,_,rfl,_,rfl,_,_,rfl,rfl,⟨by decide,by decide⟩,_,rfl,_,_,rfl,rfl,(by show(0:Int)<((sg.cps.size:Nat):Int);omega),sg,_,sg.cps.toList[iN],rfl,rfl,hzs,?_,?_⟩
   ·show A9 _ (m / 6 % ((sg.length:Nat):Int))=_
    rw[TY]
    exact bO (List.getElem?_eq_getElem hcl)
   refine⟨_,_,rfl,rfl,hz1 _ (by show sg.cps.size+1<=20;omega),_,rfl,_,_,rfl,rfl,hz1 _ (by show sg.cps.size+1<=20;omega),_,rfl,_,_,rfl,rfl,hz1 _ (by show 1+sg.cps.size<=20;omega),by show 4<=sizeLine;decide,λb hb=>?_⟩
   obtain⟨x,hx,hat⟩:∃x:Str,Oj x/\A9 ([.str (Str.ofString ""),.str (sg++(⟨#[sg.cps.toList[iN]]⟩:Str)),.str (sg++Str.ofString "-"),.str (Str.ofString "\"" ++sg)]:List V) (m / 100 % 4)=some (.str x):=by
    have h4:m / 100 % 4=0\/m / 100 % 4=1\/m / 100 % 4=2\/m / 100 % 4=3:=by omega
    rcases h4 with h|h|h|h
    ·rw[h];exact⟨_,Kh,rfl⟩
    ·rw[h];exact⟨_,hb1,rfl⟩
    ·rw[h];exact⟨_,hb2,rfl⟩
    ·rw[h];exact⟨_,Km,rfl⟩
   have sB:=ai.upd (o:=.lst [.str (Str.ofString ""),.str (sg++(⟨#[sg.cps.toList[iN]]⟩:Str)),.str (sg++Str.ofString "-"),.str (Str.ofString "\"" ++sg)]) hb
   refine⟨_,rfl,_,_,rfl,rfl,⟨by decide,by decide⟩,_,_,rfl,rfl,(by show(0:Int)<_;decide),b,_,_,.str x,rfl,rfl,bX.of af,hat,?_⟩
   refine⟨_,rfl,a0,_,0,0,rfl,rfl,sB _ _ K5,by rw[List.length_map,hlen];unfold B7;rw[if_pos (by omega),if_pos (by omega)];rfl,?_⟩
   refine⟨_,rfl,by show 2<=sizeLine;decide,λq hq=>?_⟩
   exact fin ((gy sg R fo fm).set 0 x) 0 _ a0 (Jo TB hx.no hx.asc hx.sm hx.free) (ai.at (DO.trans sB) ha0) (by rw[af,GP.nQ]) q hq
  refine⟨_,rfl,_,_,rfl,rfl,(by show(0:Int)<_;decide),rfl,_,rfl,?_⟩
  refine jo (λc1=>?_) λc1=>?_
  ·-- a row left out
   have hy:((gy sg R fo fm).map V.str)[kN]? =some (.str (jb ps)):=by rw[List.getElem?_map,zA];rfl
   refine⟨_,rfl,.inl ⟨rfl,_,bX.of K5⟩,_,rfl,a0,_,(kN:Int),kN,.str (jb ps),rfl,rfl,K5,by omega,by omega,?_,hy,?_⟩
   ·rw[List.length_map,hlen]
    unfold seqIndex?
    simp
    omega
   have hE:upd H3 a0 (.lst (((gy sg R fo fm).map V.str).eraseIdx kN)) a0=some (.lst (((gy sg R fo fm).eraseIdx kN).map V.str)):=by rw[af,wg]
   have sE:ai H1 (upd H3 a0 (.lst (((gy sg R fo fm).map V.str).eraseIdx kN))):=ai.at DO ha0
   generalize upd H3 a0 (.lst (((gy sg R fo fm).map V.str).eraseIdx kN))=H5 at hE sE ⊢
   have hP:=Gq TB k1 k2
   have hn1:(((sg.length:Nat):Int)+1)=((sg.cps.size+1:Nat):Int):=by show((sg.cps.size:Nat):Int)+1=_;omega
   refine⟨_,rfl,_,rfl,rfl,_,rfl,?_⟩
   refine jo (λz=>?_) λz=>?_
   ·have z':sg.cps.size=2:=by have SQ:((sg.cps.size:Nat):Int)=2:=z;omega
    rw[if_pos (.inl z')]at hP
    refine mh ⟨_,rfl,_,_,rfl,rfl,by show 2<=sizeLine;decide,λq hq=>?_⟩
    have:=fin _ _ H5 a0 hP sE hE q hq
    rw[←hn1]at this
    exact this
   ·refine⟨_,rfl,_,rfl,_,_,rfl,rfl,rfl,_,rfl,?_⟩
    refine jo (λy=>?_) λy=>?_
    ·have y':kN=sg.cps.size+1:=by have WC:(kN:Int)=((sg.cps.size:Nat):Int)+1:=y;omega
     rw[if_pos (.inr y')]at hP
     refine⟨_,rfl,_,_,rfl,rfl,by show 2<=sizeLine;decide,λq hq=>?_⟩
     have:=fin _ _ H5 a0 hP sE hE q hq
     rw[←hn1]at this
     exact this
    ·rw[if_neg (λw=>w.elim (λw=>z (by show((sg.cps.size:Nat):Int)=2;omega)) λw=>y (by show(kN:Int)=((sg.cps.size:Nat):Int)+1;omega))]at hP
     exact⟨_,rfl,by show 2<=sizeLine;decide,λq hq=>fin _ _ H5 a0 hP sE hE q hq⟩
  refine⟨_,rfl,_,_,rfl,rfl,(by show(0:Int)<_;decide),rfl,_,rfl,?_⟩
  refine jo (λc2=>?_) λc2=>?_
  ·-- a row more
   obtain⟨f1,e1,_,_,Sq,o1⟩:=TB.row (k:=1) (Nat.le_refl _) (by omega)
   have hf1:(jb (f1.map sW)).cps.size<=2000:=xB o1 Sq
   have hr1:10∉(jb (f1.map sW)).cps.toList:=TB.HS.free _ (List.mem_of_getElem? e1)
   refine⟨_,rfl,_,rfl,l,_,_,.str (jb (f1.map sW)),rfl,rfl,bX.of hl3,bO (j:=1) (by rw[List.getElem?_map,e1];rfl),by show 3<=sizeLine;decide,λb hb=>?_⟩
   obtain⟨x,x1,x2,hat⟩:∃x:Str,10∉x.cps.toList/\x.cps.size<=2000/\A9 ([.str (Str.ofString ""),.str (Str.ofString "1 2"),.str (jb (f1.map sW))]:List V) (m / 6 % 3)=some (.str x):=by
    have h4:m / 6 % 3=0\/m / 6 % 3=1\/m / 6 % 3=2:=by omega
    rcases h4 with h|h|h
    ·rw[h];exact⟨_,by decide +kernel,by decide +kernel,rfl⟩
    ·rw[h];exact⟨_,by decide +kernel,by decide +kernel,rfl⟩
    ·rw[h];exact⟨_,hr1,hf1,rfl⟩
   have sB:=ai.upd (o:=.lst [.str (Str.ofString ""),.str (Str.ofString "1 2"),.str (jb (f1.map sW))]) hb
   refine⟨_,rfl,_,_,rfl,rfl,⟨by decide,by decide⟩,_,_,rfl,rfl,(by show(0:Int)<_;decide),b,_,_,.str x,rfl,rfl,bX.of af,hat,by show 1<=sizeLine;decide,λb2 hb2=>?_⟩
   have sC:=sB.trans (ai.upd (o:=.lst [.str x]) hb2)
   refine⟨a0,b2,_,_,rfl,rfl,sC _ _ K5,af,by rw[List.length_map,hlen];exact Nat.le_trans (show sg.cps.size+2+1<=20 by omega) (by decide),λb3 Km=>?_⟩
   refine⟨_,rfl,_,_,rfl,rfl,by show 2<=sizeLine;decide,λq hq=>?_⟩
   have:=fin (gy sg R fo fm++[x]) (sg.cps.size+2) _ b3 (Ed TB x1 x2) ((DO.trans sC).trans (ai.upd Km)) (by rw[af,List.map_append];rfl) q hq
   exact this
  refine⟨_,rfl,_,_,rfl,rfl,(by show(0:Int)<_;decide),rfl,_,rfl,?_⟩
  refine jo (λc3=>?_) λc3=>?_
  ·-- pieces more or Up
   have Ws:Cl (⟨#[49]⟩:Str):=⟨by decide +kernel,by decide +kernel,by decide⟩
   have Uu:Cl (⟨#[]⟩:Str):=⟨by decide +kernel,by decide +kernel,by decide⟩
   have Kn:A9 ((gy sg R fo fm).map V.str) (kN:Int)=some (.str (jb ps)):=bO (by rw[List.getElem?_map,zA];rfl)
   have RK:∀n:Nat,n<=10->(jb ps).cps.size+n<=sizeLine:=λn hn=>Nat.le_trans (show _<=2010 by omega) (by decide)
   have hp1:1<=ps.length:=List.length_pos_iff.mpr AY
   refine⟨rfl,_,rfl,1,rfl,a1,_,rfl,bX.of hp3,λb hb=>?_⟩
   rw[show qY (ps.map V.str) (some 1) none=(ps.drop 1).map V.str from(nH (n:=1) (by rw[List.length_map];exact hp1)).trans (by rw[List.map_drop])]
   have sB:ai H3 (upd H3 b (.lst ((ps.drop 1).map V.str))):=ai.upd hb
   have hB:upd H3 b (.lst ((ps.drop 1).map V.str)) b=some (.lst ((ps.drop 1).map V.str)):=af
   generalize upd H3 b (.lst ((ps.drop 1).map V.str))=HB at sB hB ⊢
   have N4:=sB _ _ K5
   refine⟨_,b,ps.drop 1,rfl,rfl,.inl (bX.of hB),by decide,λz hz=>Nat.le_trans (hps z (List.mem_of_mem_drop hz)).c (by decide),by rw[List.length_drop];exact Nat.le_trans (show ps.length-1<=20 by omega) (by decide),?_⟩
   refine⟨_,rfl,_,rfl,a0,_,_,.str (jb ps),rfl,rfl,bX.of N4,Kn,_,_,rfl,rfl,RK 2 (by decide),?_⟩
   refine⟨_,rfl,_,rfl,a0,_,_,.str (jb ps),rfl,rfl,bX.of N4,Kn,_,_,rfl,rfl,RK 1 (by decide),?_⟩
   refine⟨_,rfl,_,rfl,a0,_,_,.str (jb ps),rfl,rfl,bX.of N4,Kn,_,_,rfl,rfl,by show 1+(jb ps).cps.size<=sizeLine;rw[Nat.add_comm];exact RK 1 (by decide),by show 4<=sizeLine;decide,λb2 hb2=>?_⟩
   obtain⟨qs,q1,q2,q3,hat⟩:∃qs:List Str,(∀p∈qs,Cl p)/\qs.length<=13/\(qs=[]\/qs.length≠Bm sg.cps.size kN\/∃p∈qs,oJ p=none)/\A9 ([.str (Str.join (Str.ofString " ") (ps.drop 1)),.str (jb ps++Str.ofString " 1"),.str (jb ps++Str.ofString " "),.str (Str.ofString " " ++jb ps)]:List V) (m / 100 % 4)=some (.str (jb qs)):=by
    have h4:m / 100 % 4=0\/m / 100 % 4=1\/m / 100 % 4=2\/m / 100 % 4=3:=by omega
    rcases h4 with h|h|h|h
    ·rw[h];exact⟨ps.drop 1,λp hp=>hps p (List.mem_of_mem_drop hp),by rw[List.length_drop];omega,.inr (.inl (by rw[List.length_drop];omega)),rfl⟩
    ·rw[h]
     refine⟨ps++[⟨#[49]⟩],λp hp=>?_,by rw[List.length_append];show _+1<=13;omega,.inr (.inl (by rw[List.length_append];show _+1≠_;omega)),?_⟩
     ·rcases List.mem_append.mp hp with hp|hp
      ·exact hps p hp
      ·rw[List.mem_singleton.mp hp];exact Ws
     ·rw[←B4 (z:=Str.ofString " 1") AY (by decide +kernel)]
      rfl
    ·rw[h]
     refine⟨ps++[⟨#[]⟩],λp hp=>?_,by rw[List.length_append];show _+1<=13;omega,.inr (.inl (by rw[List.length_append];show _+1≠_;omega)),?_⟩
     ·rcases List.mem_append.mp hp with hp|hp
      ·exact hps p hp
      ·rw[List.mem_singleton.mp hp];exact Uu
     ·rw[←B4 (z:=Str.ofString " ") AY (by decide +kernel)]
      rfl
    ·rw[h]
     refine⟨⟨#[]⟩::ps,λp hp=>?_,by rw[List.length_cons];omega,.inr (.inl (by rw[List.length_cons];omega)),?_⟩
     ·rcases List.mem_cons.mp hp with rfl|hp
      ·exact Uu
      ·exact hps p hp
     ·rw[←GY AY]
      rfl
   have sC:=ai.upd (o:=.lst [.str (Str.join (Str.ofString " ") (ps.drop 1)),.str (jb ps++Str.ofString " 1"),.str (jb ps++Str.ofString " "),.str (Str.ofString " " ++jb ps)]) hb2
   refine⟨_,rfl,_,_,rfl,rfl,⟨by decide,by decide⟩,_,_,rfl,rfl,(by show(0:Int)<_;decide),b2,_,_,.str (jb qs),rfl,rfl,bX.of af,hat,?_⟩
   refine⟨_,rfl,_,rfl,a0,_,(kN:Int),kN,rfl,rfl,sC _ _ N4,by rw[List.length_map,hlen];unfold B7;rw[if_pos (by omega),if_pos (by omega)];simp,?_⟩
   refine⟨_,rfl,_,rfl,by show 2<=sizeLine;decide,λq hq=>?_⟩
   exact fin ((gy sg R fo fm).set kN (jb qs)) kN _ a0 (Br TB k1 k2 q1 q2 q3) (ai.at ((DO.trans sB).trans sC) ha0) (by rw[af,GP.nQ]) q hq
  refine⟨λσ H'=>∃b1,σ=[some (.ref s),some (.ref t),some (.ref l),some (.int m),some (.ref a0),some (.int ((sg.length:Nat):Int)),some (.int (kN:Int)),some (.ref a1),none,some (.ref b1),none]/\ai H3 H'/\H' b1=some (.lst ((tG.take 16).map V.str)),?_,?_⟩
  ·exact⟨by show 16<=sizeLine;decide,λb1 hb1=>⟨b1,rfl,ai.upd hb1,af⟩⟩
  rintro σ H4 ⟨b1,rfl,s4,hb1⟩
  have JY:=s4 _ _ hp3
  have Vk:(ps.map V.str).length=ps.length:=List.length_map ..
  have hp1:1<=ps.length:=List.length_pos_iff.mpr AY
  obtain⟨sp,zw,UO⟩:∃sp:Nat,m / 100 % (((ps.map V.str).length:Nat):Int)=(sp:Int)/\sp<ps.length:=by
   have b1:=Int.emod_nonneg (m / 100) (show(((ps.map V.str).length:Nat):Int)≠0 by omega)
   have b2:=Int.emod_lt_of_pos (m / 100) (show(0:Int)<(((ps.map V.str).length:Nat):Int) by omega)
   exact⟨(m / 100 % (((ps.map V.str).length:Nat):Int)).toNat,(Int.toNat_of_nonneg b1).symm,by omega⟩
  refine⟨λσ H'=>σ=[some (.ref s),some (.ref t),some (.ref l),some (.int m),some (.ref a0),some (.int ((sg.length:Nat):Int)),some (.int (kN:Int)),some (.ref a1),none,some (.ref b1),some (.int (sp:Int))]/\H'=H4,?_,?_⟩
  ·refine⟨_,rfl,_,_,rfl,rfl,⟨by decide,by decide⟩,_,rfl,_,_,rfl,.inl ⟨_,bX.of JY,rfl⟩,_,_,rfl,rfl,(by show(0:Int)<(((ps.map V.str).length:Nat):Int);omega),?_⟩
   exact⟨by rw[←zw];rfl,rfl⟩
  rintro σ H' ⟨rfl,rfl⟩
  refine⟨λσ H5=>∃b2,σ=[some (.ref s),some (.ref t),some (.ref l),some (.int m),some (.ref a0),some (.int ((sg.length:Nat):Int)),some (.int (kN:Int)),some (.ref a1),none,some (.ref b2),some (.int (sp:Int))]/\ai H' H5/\H5 b2=some (.lst ((tG.take 23).map V.str)),?_,?_⟩
  ·refine⟨_,rfl,_,60,rfl,rfl,by decide,by decide,by decide +kernel,by decide +kernel,_,_,rfl,rfl,by decide +kernel,_,60,rfl,rfl,by decide,by decide,by decide +kernel,by decide +kernel,_,_,rfl,rfl,by decide +kernel,by show 7<=sizeLine;decide,λc1 hc1=>?_⟩
   refine⟨b1,c1,_,_,rfl,rfl,ai.upd hc1 _ _ hb1,af,by show 23<=sizeLine;decide,λc2 hc2=>⟨c2,rfl,(ai.upd hc1).trans (ai.upd hc2),?_⟩⟩
   rw[af,LJ,LI]
   rfl
  rintro σ H5 ⟨b2,rfl,s5,hb2⟩
  refine⟨λσ H6=>∃b3,σ=[some (.ref s),some (.ref t),some (.ref l),some (.int m),some (.ref a0),some (.int ((sg.length:Nat):Int)),some (.int (kN:Int)),some (.ref a1),none,some (.ref b3),some (.int (sp:Int))]/\ai H5 H6/\H6 b3=some (.lst (tG.map V.str)),?_,?_⟩
  ·refine⟨_,rfl,by show 5<=sizeLine;decide,λc1 hc1=>?_⟩
   exact⟨b2,c1,_,_,rfl,rfl,ai.upd hc1 _ _ hb2,af,by show 28<=sizeLine;decide,λc2 hc2=>⟨c2,rfl,(ai.upd hc1).trans (ai.upd hc2),by rw[af];rfl⟩⟩
  rintro σ H6 ⟨b3,rfl,s6,Km⟩
  have QF:=(s4.trans s5).trans s6
  have Ds:=QF _ _ hp3
  have Wf:=QF _ _ K5
  obtain⟨j,hj,j2⟩:∃j:Nat,m / 6 % 28=(j:Int)/\j<28:=⟨(m / 6 % 28).toNat,by omega,by omega⟩
  obtain⟨c,hc,hbc⟩:=some_at j2
  obtain⟨x1,x2,x3,x4⟩:=Hr hbc
  have hcs:∀p∈ps.set sp c,Cl p:=λp hp=>by
   rcases List.mem_or_eq_of_mem_set hp with hp|rfl
   ·exact hps p hp
   ·exact⟨x3,x4,x2⟩
  have hcl:(ps.set sp c).length<=13:=by rw[List.length_set];omega
  have NX:c∈ps.set sp c:=List.mem_of_getElem? (List.getElem?_set_self UO)
  refine⟨_,rfl,_,rfl,_,_,rfl,rfl,⟨by decide,by decide⟩,_,_,rfl,rfl,(by show(0:Int)<_;decide),b3,_,_,.str c,rfl,rfl,bX.of Km,by rw[hj];exact bO (by rw[List.getElem?_map,hc];rfl),?_⟩
  refine⟨_,rfl,_,rfl,a1,_,(sp:Int),sp,rfl,rfl,Ds,by rw[Vk];unfold B7;rw[if_pos (by omega),if_pos (by omega)];simp,?_⟩
  rw[GP.nQ]
  have Ul:upd H6 a1 (.lst ((ps.set sp c).map V.str)) a0=some (.lst ((gy sg R fo fm).map V.str)):=by rw[az (Ne.symm Vj)];exact Wf
  have Fg:upd H6 a1 (.lst ((ps.set sp c).map V.str)) a1=some (.lst ((ps.set sp c).map V.str)):=af
  have S3:ai H1 (upd H6 a1 (.lst ((ps.set sp c).map V.str))):=ai.at (DO.trans QF) (ai.free s2 RZ)
  generalize upd H6 a1 (.lst ((ps.set sp c).map V.str))=H7 at Ul Fg S3 ⊢
  refine⟨rfl,_,rfl,_,a1,ps.set sp c,rfl,rfl,.inl (bX.of Fg),by decide,λz hz=>Nat.le_trans (hcs z hz).c (by decide),Nat.le_trans hcl (by decide),?_⟩
  refine⟨_,rfl,_,rfl,a0,_,(kN:Int),kN,rfl,rfl,Ul,by rw[List.length_map,hlen];unfold B7;rw[if_pos (by omega),if_pos (by omega)];simp,?_⟩
  refine⟨_,rfl,_,rfl,by show 2<=sizeLine;decide,λq hq=>?_⟩
  exact fin ((gy sg R fo fm).set kN (jb (ps.set sp c))) kN _ a0 (Br TB k1 k2 hcs hcl (.inr (.inr ⟨c,NX,x1⟩))) (ai.at S3 ha0) (by rw[af,←GP.nQ];rfl) q hq
end
section
open PySem.NumText
variable{P:Program}{w:World}{K:PySem.W.Frag}{mg:Str->Option Value}{base:Heap}
theorem AE {j0 bR iR iS cK cO g9 bf dR aL fU iQ g8 fT cX:Addr} {jq bI gY gZ cy cF gj aX dm bY eV gX gi eT cE:FuncData} {p:Pm} (T:Txt K mg p) (iT:Dn K mg "_law_one" nR l6 j0 jq) (aQ:Dn K mg "_law_next" gB l6 bR bI) (fY:aW P w K mg base ee 1 bR bI l6 (qD K)) (fM:Dn K mg "_law_signs" kH F3 iR gY) (zY:aW P w K mg base ee 2 iR gY F3 (Bv K)) (fN:Dn K mg "_law_pairs" kI F3 iS gZ) (zZ:aW P w K mg base ee 3 iS gZ F3 (BA K)) (br:Dn K mg "_law_fraction" gC l6 cK cy) (jf:aW P w K mg base ee 2 cK cy l6 (Al K)) (aF:Dn K mg "_law_fraction_text" fB F1 cO cF) (fC:aW P w K mg base ee 2 cO cF F1 (HG K)) (bT:Dn K mg "_law_lowest" jW F1 g9 gj) (mz:aW P w K mg base ee 2 g9 gj F1 (Eh K)) (aG:Dn K mg "written_fraction" cW l8 bf aX) (d8:aW P w K mg base ee 4 bf aX l8 (Bs K)) (cG:Dn K mg "written_prices" gM ["prices"] dR dm) (rB:aW P w K mg base ee 6 dR dm ["prices"] (Hz K p.au)) (bU:Dm K "__init__" "Prices.__init__" bS HU aL bY) (lJ:Mk K p.au aL) (jg:aW P w K mg base ee 5 aL bY HU (Ak K p.au)) (b7:Dn K mg "_law_read" j8 JN fU eV) (mw:aW P w K mg base ee 12 fU eV JN (pQ K)) (fL:Dn K mg "_law_sixty" kG Mf iQ gX) (zX:aW P w K mg base ee 13 iQ gX Mf (Bt K)) (e7:Dn K mg "_law_spoilt" jV Me g8 gi) (yi:aW P w K mg base ee 2 g8 gi Me (tE K)) (cZ:Dn K mg "_law_told" j7 JO fT eT) (pL:aW P w K mg base ee 11 fT eT JO (tD K p.au)) (bE:Dn K mg "_law_same" jj F2 cX cE) (kr:aW P w K mg base ee 5 cX cE F2 (pP K 4)):aW P w K mg base ee 14 j0 jq l6 (BB K):=by
 refine iT.fn.ok b5 (λvs H Q E h=>?_) (λcdv A outer s H vs Q E hr h=>?_)
 ·obtain⟨s,t,ns,k,rfl,_⟩:=h
  rfl
 ·obtain⟨s,t,ns,k,rfl,hC,hk,kk⟩:=h
  have k0:=hC.k0
  refine⟨_,(ak (aE (i:=2) b5.nd rfl (Or.inl rfl) (aD fY (hr.mono (by decide)) rfl aQ.m aQ.fn.kp aQ.b .nil bB (aa (pv 0) (aa (pv 1) ah))))
   (ak (aE (i:=3) b5.nd rfl (Or.inl rfl) (aD zY (hr.mono (by decide)) rfl fM.m fM.fn.kp fM.b .nil bB (aa (pv 0) (aa (pv 1) (aa (aV bG (fk (aH aj (aH aj (aH aj (aH aj (aH aj (aH aj ah))))))) (aB cA (pv 2) aj) (λ_ _=>rfl)) ah)))))
   (ak (aE (i:=4) b5.nd rfl (Or.inl rfl) (aD zZ (hr.mono (by decide)) rfl fN.m fN.fn.kp fN.b .nil bB (aa (pv 0) (aa (pv 1) (aa (ay (bL) rfl T.dG b6 (aa (pv 3) ah)) ah)))))
   (ak (aE (i:=5) b5.nd rfl (Or.inl rfl) (aD jf (hr.mono (by decide)) rfl br.m br.fn.kp br.b .nil bB (aa (pv 0) (aa (pv 1) ah))))
   (b4 (aE (i:=6) b5.nd rfl (Or.inl rfl) (aD jf (hr.mono (by decide)) rfl br.m br.fn.kp br.b .nil bB (aa (pv 0) (aa (pv 1) ah))))
   (b4 (aE (i:=7) b5.nd rfl (Or.inl rfl) (aB m8 (fk (aa (pv 3) ah)) (gv (N:=["_law_line"]) rfl (λ_=>⟨[],cC.plain (by decide +kernel) rfl (by decide +kernel) (by decide +kernel)⟩) (kJ (pv 4)) (λ_ _ _ _ _ _ _=>(bD (i:=0) (show(["_law_line"]:List Str).Nodup by decide +kernel) rfl (Or.inl rfl))) (λ_ _ _ _ _ _ _=>(JD (K':=K) rfl PySem.F.plainAttrs_str PySem.F.slot_str_join PySem.F.type_str_join (iz rfl) aI (aa (gv (N:=["_law_price"]) rfl (λ_=>⟨[],cC.plain (by decide +kernel) rfl (by decide +kernel) (by decide +kernel)⟩) (yR (K':=K) rfl (pv 0)) (λ_ _ _ _ _ _ _=>(bD (i:=0) (show(["_law_price"]:List Str).Nodup by decide +kernel) rfl (Or.inl rfl))) (λ_ _ _ _ _ _ _=>(aD fC (hr.mono (by decide)) rfl aF.m aF.fn.kp aF.b .nil bB (aa (pv 0) ah)))) ah))))))
   (b4 (gR (gD PySem.F.plainAttrs_list PySem.F.slot_list_append PySem.F.type_list_append jZ (pv 7) (aa (aB bK (aB bK (aD fC (hr.mono (by decide)) rfl aF.m aF.fn.kp aF.b .nil bB (aa (pv 5) ah)) aI) (aD fC (hr.mono (by decide)) rfl aF.m aF.fn.kp aF.b .nil bB (aa (pv 6) ah))) ah)))
   (b4 (aE (i:=10) b5.nd rfl (Or.inl rfl) (cM (jC) rfl T.ku jL (aa (gv (N:=["_law_line"]) rfl (λ_=>⟨[],cC.plain (by decide +kernel) rfl (by decide +kernel) (by decide +kernel)⟩) (kJ (pv 4)) (λ_ _ _ _ _ _ _=>(bD (i:=0) (show(["_law_line"]:List Str).Nodup by decide +kernel) rfl (Or.inl rfl))) (λ_ _ _ _ _ _ _=>(cM (uJ (K':=K) rfl) rfl T.ku jL (aa (gv (N:=["_law_price"]) rfl (λ_=>⟨[],cC.plain (by decide +kernel) rfl (by decide +kernel) (by decide +kernel)⟩) (yR (K':=K) rfl (pv 0)) (λ_ _ _ _ _ _ _=>(bD (i:=0) (show(["_law_price"]:List Str).Nodup by decide +kernel) rfl (Or.inl rfl))) (λ_ _ _ _ _ _ _=>(aD mz (hr.mono (by decide)) rfl bT.m bT.fn.kp bT.b .nil bB (aa (pv 0) ah)))) ah)))) ah)))
   (b4 (aE (i:=11) b5.nd rfl (Or.inl rfl) (cU (aa (pv 3) (aa (pv 10) (aa (aD mz (hr.mono (by decide)) rfl bT.m bT.fn.kp bT.b .nil bB (aa (pv 5) ah)) (aa (aD mz (hr.mono (by decide)) rfl bT.m bT.fn.kp bT.b .nil bB (aa (pv 6) ah)) ah))))))
   (b4 (jM PassesOwn.never rfl (kJ (aB m8 (fk (aa (pv 5) (aa (pv 6) ah))) (aV bG (pv 4) aj (λ_ _=>rfl)))) (bD (i:=8) b5.nd rfl (Or.inl rfl)) (ak (aE (i:=12) b5.nd rfl (Or.inl rfl) (aD d8 (hr.mono (by decide)) rfl aG.m aG.fn.kp aG.b .nil bB (aa (pv 8) ah)))
   (aq (ck (PW.pt (m6 (jk (cT (ay (rQ) rfl T.aN aK (aa (pv 12) (aa (c8 (v:=.ty "str") rfl T.lq jt rfl) ah))))) (kW (bw oK (pv 12) (aD fC (hr.mono (by decide)) rfl aF.m aF.fn.kp aF.b .nil bB (aa (pv 8) ah)) (bH _))))) (aq (aR pX)) aY))))
   (b4 (aE (i:=13) b5.nd rfl (Or.inl rfl) (gD PySem.F.plainAttrs_str PySem.F.slot_str_join PySem.F.type_str_join (iz rfl) aI (aa (pv 7) ah)))
   (b4 (aE (i:=12) b5.nd rfl (Or.inl rfl) (aD rB (hr.mono (by decide)) rfl cG.m cG.fn.kp cG.b .nil bB (aa (BO lJ jg (hr.mono (by decide)) rfl T.qR bU.b .nil bB (aa (pv 3) (aa (pv 4) (aa (pv 5) (aa (pv 6) ah))))) ah)))
   (b4 (ck (PW.pt (m6 (jk (cT (ay (rQ) rfl T.aN aK (aa (pv 12) (aa (c8 (v:=.ty "str") rfl T.lq jt rfl) ah))))) (m6 (bw oK (pv 12) (pv 13) (bH _)) (kW (jk (cT (aD mw (hr.mono (by decide)) rfl b7.m b7.fn.kp b7.b .nil bB (aa (pv 13) (aa (pv 11) ah))))))))) (aq (aR pX)) aY)
   (b4 (ck (jk (cT (aD zX (hr.mono (by decide)) rfl fL.m fL.fn.kp fL.b .nil bB (aa (aB gw (pv 2) aj) (aa (pv 7) (aa (pv 11) ah)))))) (aq (aR pX)) aY)
   (b4 (lT (aD yi (hr.mono (by decide)) rfl e7.m e7.fn.kp e7.b .nil bB (aa (pv 0) (aa (pv 1) (aa (pv 7) ah)))) (tU (n:=2) rfl (iw (bD (i:=14) b5.nd rfl (Or.inl rfl)) (iw (bD (i:=9) b5.nd rfl (Or.inl rfl)) pW))))
   (b4 (ck (PW.pt (Ay (bw iP (ay (bL) rfl T.dG b6 (aa (pv 14) ah)) (ay (bL) rfl T.dG b6 (aa (pv 7) ah)) (bH _)) (w9 (bw iP (aB cA (aB gw (pv 2) aj) aj) aj (bH _))))) (aq (aE (i:=14) b5.nd rfl (Or.inl rfl) (aB m8 (pv 14) (fk (aa aI ah))))) aY)
   (b4 (ck (jk (cT (aD kr (hr.mono (by decide)) rfl bE.m bE.fn.kp bE.b .nil bB (aa (aD pL (hr.mono (by decide)) rfl cZ.m cZ.fn.kp cZ.b .nil bB (aa (gD PySem.F.plainAttrs_str PySem.F.slot_str_join PySem.F.type_str_join (iz rfl) aI (aa (pv 14) ah)) ah)) (aa (cU (aa aI (aa (pv 9) ah))) ah))))) (aq (aR pX)) aY)
   (aq (aR (aD mw (hr.mono (by decide)) rfl b7.m b7.fn.kp b7.b .nil bB (aa (pv 13) (aa (pv 11) ah)))))))))))))))))))))),?_⟩
  refine⟨_,rfl,_,rfl,s,t,ns,k,rfl,hC,by omega,λm hm hm2=>?_⟩
  generalize Uh:upd H t (.lst [.int (k+1)])=H0
  have C0:rD K H0 s t ns (k+1):=by rw[←Uh];exact hC.step (by omega)
  have w0:ai (Wo t H) (Wo t H0):=by rw[←Uh,Wo.set];exact ai.refl _
  obtain⟨v,hv,v1,v2⟩:∃v:Int,A9 ([.int 1,.int 2,.int 3,.int 4,.int 5,.int 11]:List V) (m % 6)=some (.int v)/\1<=v/\v<=11:=by
   have h6:m % 6=0\/m % 6=1\/m % 6=2\/m % 6=3\/m % 6=4\/m % 6=5:=by omega
   rcases h6 with h|h|h|h|h|h
   ·rw[h];exact⟨1,rfl,by omega,by omega⟩
   ·rw[h];exact⟨2,rfl,by omega,by omega⟩
   ·rw[h];exact⟨3,rfl,by omega,by omega⟩
   ·rw[h];exact⟨4,rfl,by omega,by omega⟩
   ·rw[h];exact⟨5,rfl,by omega,by omega⟩
   ·rw[h];exact⟨11,rfl,by omega,by omega⟩
  refine⟨_,rfl,_,rfl,by show 6<=sizeLine;decide,λa ha=>?_⟩
  have sa:=ai.upd (o:=.lst [.int 1,.int 2,.int 3,.int 4,.int 5,.int 11]) ha
  have Uz:=C0.same sa
  refine⟨_,rfl,_,_,rfl,rfl,(by show(0:Int)<_;decide),a,_,_,.int v,rfl,rfl,bX.of af,hv,s,t,ns,k+1,v,rfl,Uz,by omega,v1,by omega,λsg hsg h11=>?_⟩
  have SS:ai (Wo t H) (Wo t (upd (upd H0 a (.lst [.int 1,.int 2,.int 3,.int 4,.int 5,.int 11])) t (.lst [.int (k+1+1)]))):=by rw[Wo.set];exact w0.trans (Wo.same sa)
  have C1:rD K (upd (upd H0 a (.lst [.int 1,.int 2,.int 3,.int 4,.int 5,.int 11])) t (.lst [.int (k+1+1)])) s t ns (k+1+1):=Uz.step (by omega)
  generalize upd (upd H0 a (.lst [.int 1,.int 2,.int 3,.int 4,.int 5,.int 11])) t (.lst [.int (k+1+1)])=H1 at SS C1 ⊢
  have r9:sg.cps.size<=11:=by omega
  have hz:sg.length<=sizeLine:=Nat.le_trans r9 (by decide)
  have hs1:1<=sg.cps.size:=hsg.1
  refine⟨_,rfl,_,rfl,_,rfl,_,_,rfl,⟨hz,rfl⟩,s,t,ns,k+1+1,((sg.cps.size:Nat):Int),rfl,C1,by omega,by omega,by omega,λl rs H2 R k2 LM sq NI WK nl s2 Ib hk2 VM=>?_⟩
  rw[show(((sg.cps.size:Nat):Int)).toNat=sg.cps.size by omega]at sq
  have C2:rD K H2 s t ns k2:=C1.off s2 Ib (by omega)
  refine⟨_,rfl,_,rfl,s,t,ns,k2,rfl,C2,by omega,λfo o H3 pY s3 WO TQ=>?_⟩
  have w3:=Wo.step s3
  have NP:=s3 _ _ af
  have C3:rD K H3 s t ns (k2+1):=C2.off w3 NP (by omega)
  refine⟨λσ H'=>∃(fm:aS) (mo:Addr),DG fm/\σ=[some (.ref s),some (.ref t),some (.int m),some (.str sg),some (.ref l),some (.ref o),some (.ref mo),none,none,none,none,none,none,none,none]/\ai (Wo t H) (Wo t H')/\H' t=some (.lst [.int (k2+1+1)])/\oA K (Wo t H') l rs R/\eB K (Wo t H') o fo/\eB K (Wo t H') mo fm,?_,?_⟩
  ·refine⟨_,rfl,_,rfl,s,t,ns,k2+1,rfl,C3,by omega,λfm mo H4 pq s4 hmn NT=>?_⟩
   have w4:=Wo.step s4
   have Cc:=s4 _ _ af
   have ne3:o≠t:=t8 TQ NP (by intro z;cases z)
   have ne4:mo≠t:=t8 NT Cc (by intro z;cases z)
   exact⟨fm,mo,pq,rfl,((SS.trans s2).trans w3).trans w4,Cc,(LM.same w3).same w4,cL.of (w4 _ _ (Wo.in ne3 TQ)),cL.of (Wo.in ne4 NT)⟩
  rintro σ H4 ⟨fm,mo,pq,rfl,w4,Cc,Wv,VH,NT⟩
  have TB:Tab sg R fo fm:=⟨hsg,r9,sq,NI,pY,pq⟩
  have Ni:oA K H4 l rs R:=Wv.same Wo.sub
  have F7:=TB.frs
  have NZ:R.length<=11:=by rw[sq.1];exact r9
  have hrl:∀r∈R,r.length<=11:=λr hr=>by rw[sq.2 r hr];exact r9
  refine⟨λσ H'=>∃r1,σ=[some (.ref s),some (.ref t),some (.int m),some (.str sg),some (.ref l),some (.ref o),some (.ref mo),some (.ref r1),none,none,none,none,none,none,none]/\ai H4 H'/\H4 r1=none/\H' r1=some (.lst ((sg::R.map λr=>jb (r.map sW)).map V.str)),?_,?_⟩
  ·refine⟨_,rfl,by show 1<=sizeLine;decide,λb hb=>?_⟩
   have sb:ai H4 (upd H4 b (.lst [.str sg])):=ai.upd hb
   have G6:upd H4 b (.lst [.str sg]) b=some (.lst [.str sg]):=af
   generalize upd H4 b (.lst [.str sg])=H5 at sb G6 ⊢
   have L5:=Ni.same sb
   refine⟨_,rfl,l,rfl,⟨_,bX.of L5.at_⟩,λc hc=>?_⟩
   refine qZ R.length (λi=>.str (jb ((R.getD i []).map sW))) hc (Nat.lt_of_le_of_lt NZ (by decide)) (λi H6 s6 hi=>?_) (λH6 s6=>⟨_,bX.of (s6 _ _ L5.at_),by rw[List.length_map,L5.len];exact Nat.le_refl _⟩) (λi y H6 H7 Rr s6 hi hy hR=>?_) λH6 s6 TR=>?_
   ·exact⟨_,_,bX.of (s6 _ _ L5.at_),by rw[List.getElem?_map,List.getElem?_eq_getElem (by rw[L5.len];exact hi)];rfl⟩
   ·obtain⟨rfl,hy⟩:=hy
    have Mv:i<rs.length:=by rw[L5.len];exact hi
    have ey:=hy _ (bX.of (s6 _ _ L5.at_))
    rw[List.getElem?_map,List.getElem?_eq_getElem Mv]at ey
    cases ey
    obtain⟨ps,hps,hpp⟩:=L5.row i rs[i] R[i] (List.getElem?_eq_getElem Mv) (List.getElem?_eq_getElem hi)
    have hrm:R[i]∈R:=List.getElem_mem hi
    have eg:R.getD i []=R[i]:=by rw[List.getD_eq_getElem?_getD,List.getElem?_eq_getElem hi];rfl
    rw[eg]at hR
    have hpl:=Paired.len hpp
    refine⟨Kp.rep _ _,?_⟩
    refine⟨rfl,_,rfl,rs[i],rfl,⟨_,bX.of (s6 _ _ hps)⟩,λd hd=>?_⟩
    refine qZ R[i].length (λj=>.str (sW (R[i].getD j (0,1)))) hd (Nat.lt_of_le_of_lt (hrl _ hrm) (by decide)) (λj H8 s8 hj=>?_) (λH8 s8=>⟨_,bX.of (s8 _ _ (s6 _ _ hps)),by rw[List.length_map,hpl];exact Nat.le_refl _⟩) (λj z H8 H9 Rz s8 hj hz NY=>?_) λH8 s8 RH=>?_
    ·exact⟨_,_,bX.of (s8 _ _ (s6 _ _ hps)),by rw[List.getElem?_map,List.getElem?_eq_getElem (show j<ps.length by omega)];rfl⟩
    ·obtain⟨rfl,hz⟩:=hz
     have Ig:j<ps.length:=by omega
     have ez:=hz _ (bX.of (s8 _ _ (s6 _ _ hps)))
     rw[List.getElem?_map,List.getElem?_eq_getElem Ig]at ez
     cases ez
     obtain⟨f,ef,hf⟩:=Paired.at hpp (List.getElem?_eq_getElem Ig)
     have Wm:R[i].getD j (0,1)=f:=by rw[List.getD_eq_getElem?_getD,ef];rfl
     rw[Wm]at NY
     refine⟨Kp.rep _ _,?_⟩
     exact⟨_,rfl,ps[j],f,rfl,hf.same (s6.trans s8),F7 _ hrm f (List.mem_of_getElem? ef),NY _ (ai.refl _)⟩
    ·refine⟨_,d,R[i].map sW,rfl,rfl,.inl (bX.of ?_),by decide,λz hz=>?_,by rw[List.length_map];exact Nat.le_trans (hrl _ hrm) (by decide),hR _ s8⟩
     ·rw[RH,tO (λf=>V.str (sW f)) (0,1) R[i],List.map_map]
      rfl
     ·obtain⟨f,hf,rfl⟩:=List.mem_map.mp hz
      exact Nat.le_trans (mY (F7 _ hrm f hf)) (by decide)
   ·rw[tO (λr=>V.str (jb (r.map sW))) [] R]at TR
    refine⟨b,c,_,_,rfl,rfl,s6 _ _ G6,TR,by rw[List.length_map];exact Nat.le_trans (show 1+R.length<=20 by omega) (by decide),λr1 hr1=>⟨r1,rfl,(sb.trans s6).trans (ai.upd hr1),ai.free (sb.trans s6) hr1,?_⟩⟩
    rw[af,List.map_cons,List.map_map]
    rfl
  rintro σ H5 ⟨r1,rfl,s5,Q0,hr1⟩
  have Fw:=TB.pY.fr
  have F8:=TB.pq.fr
  have o4:eB K H4 o fo:=VH.same Wo.sub
  have m4:eB K H4 mo fm:=NT.same Wo.sub
  refine⟨λσ H'=>σ=[some (.ref s),some (.ref t),some (.int m),some (.str sg),some (.ref l),some (.ref o),some (.ref mo),some (.ref r1),none,none,none,none,none,none,none]/\ai H4 H'/\H' r1=some (.lst ((gy sg R fo fm).map V.str)),?_,?_⟩
  ·refine⟨_,rfl,.inl ⟨rfl,_,bX.of hr1⟩,_,rfl,o,fo,rfl,o4.same s5,Fw,_,_,rfl,rfl,Nat.le_trans (Nat.add_le_add_right (mY Fw) 1) (by decide),_,rfl,mo,fm,rfl,m4.same s5,F8,_,_,rfl,rfl,?_,r1,_,_,rfl,rfl,hr1,?_,rfl,ai.at s5 Q0,?_⟩
   ·show(sW fo++Str.ofString " ").cps.size+(sW fm).cps.size<=sizeLine
    rw[dX]
    exact Nat.le_trans (Nat.add_le_add (Nat.add_le_add_right (mY Fw) 1) (mY F8)) (by decide)
   ·rw[List.length_map,List.length_cons,List.length_map]
    exact Nat.lt_of_le_of_lt (show R.length+1<=20 by omega) (by decide)
   ·rw[af,JV]
    unfold gy
    rw[←List.cons_append,List.map_append]
    rfl
  rintro σ H6 ⟨rfl,s6,VB⟩
  have L6:=Ni.same s6
  refine⟨λσ H'=>∃kp,σ=[some (.ref s),some (.ref t),some (.int m),some (.str sg),some (.ref l),some (.ref o),some (.ref mo),some (.ref r1),none,none,some (.ref kp),none,none,none,none]/\ai H6 H'/\om K H' kp (gU R),?_,?_⟩
  ·refine⟨_,rfl,l,rfl,⟨_,bX.of L6.at_⟩,λc hc=>?_⟩
   refine FL (λ(H:Hp) (q:Addr) (r:List aS)=>gH K H (.tup q) (r.map aZ)) R hc (Nat.lt_of_le_of_lt NZ (by decide)) (λH H' q a e z=>z.same e) (λH q a ys o e z=>z.off e) (λi H7 s7 hi=>?_) (λH7 s7=>⟨_,bX.of (s7 _ _ L6.at_),by rw[List.length_map,L6.len];exact Nat.le_refl _⟩) (λi y r H7 H8 Rr s7 hr hy hR=>?_) λH7 qs s7 h7 hP=>?_
   ·exact⟨_,_,bX.of (s7 _ _ L6.at_),by rw[List.getElem?_map,List.getElem?_eq_getElem (by rw[L6.len];exact hi)];rfl⟩
   ·obtain⟨rfl,hy⟩:=hy
    have hi:i<R.length:=(List.getElem?_eq_some_iff.mp hr).1
    have Mv:i<rs.length:=by rw[L6.len];exact hi
    have ey:=hy _ (bX.of (s7 _ _ L6.at_))
    rw[List.getElem?_map,List.getElem?_eq_getElem Mv]at ey
    cases ey
    obtain⟨ps,hps,hpp⟩:=L6.row i rs[i] r (List.getElem?_eq_getElem Mv) hr
    have hrm:r∈R:=List.mem_of_getElem? hr
    have hpl:=Paired.len hpp
    refine⟨Kp.rep _ _,?_⟩
    refine⟨_,rfl,rs[i],rfl,⟨_,bX.of (s7 _ _ hps)⟩,λd hd=>?_⟩
    refine FL (λ(H:Hp) (q:Addr) (f:aS)=>eB K H q (aZ f)) r hd (Nat.lt_of_le_of_lt (hrl _ hrm) (by decide)) (λH H' q a e z=>z.same e) (λH q a ys o e z=>z.off' e) (λj H9 s9 hj=>?_) (λH9 s9=>⟨_,bX.of (s9 _ _ (s7 _ _ hps)),by rw[List.length_map,hpl];exact Nat.le_refl _⟩) (λj z f H9 DK Rz s9 hf hz NY=>?_) λH9 qs s9 h9 hP=>?_
    ·exact⟨_,_,bX.of (s9 _ _ (s7 _ _ hps)),by rw[List.getElem?_map,List.getElem?_eq_getElem (show j<ps.length by omega)];rfl⟩
    ·obtain⟨rfl,hz⟩:=hz
     have hj:j<r.length:=(List.getElem?_eq_some_iff.mp hf).1
     have Ig:j<ps.length:=by omega
     have ez:=hz _ (bX.of (s9 _ _ (s7 _ _ hps)))
     rw[List.getElem?_map,List.getElem?_eq_getElem Ig]at ez
     cases ez
     obtain⟨f',ef,hf'⟩:=Paired.at hpp (List.getElem?_eq_getElem Ig)
     rw[hf]at ef
     cases ef
     refine⟨Kp.rep _ _,?_⟩
     exact⟨_,rfl,ps[j],f,rfl,hf'.same (s7.trans s9),F7 _ hrm f (List.mem_of_getElem? hf),λq hq=>NY q _ (ai.upd hq) (cL.of af)⟩
    ·refine⟨d,_,rfl,.inl ⟨bX.of h9,λq hq=>hR q _ (s9.trans (ai.upd hq)) ⟨qs,cL.of af,?_⟩⟩⟩
     exact GP.Paired.mapR (Paired.iW hP λa b z=>z.same (ai.upd hq))
   ·refine⟨c,_,rfl,.inl ⟨bX.of h7,λq hq=>⟨q,rfl,s7.trans (ai.upd hq),qs,cL.of af,?_⟩⟩⟩
    exact GP.Paired.mapR (Paired.iW hP λa b z=>z.same (ai.upd hq))
  rintro σ H7 ⟨kp,rfl,s7,VL⟩
  have QE:=s6.trans s7
  refine⟨λσ H'=>∃d,σ=[some (.ref s),some (.ref t),some (.int m),some (.str sg),some (.ref l),some (.ref o),some (.ref mo),some (.ref r1),none,none,some (.ref kp),some (.ref d),none,none,none]/\ai H7 H'/\nN K H' d sg (gU R) (aZ fo) (aZ fm),?_,?_⟩
  ·refine⟨_,rfl,_,rfl,_,rfl,o,fo,rfl,o4.same QE,Fw,λq1 hq1=>?_⟩
   have NB:ai H7 (upd H7 q1 (.tup [.int (aZ fo).1,.int (aZ fo).2])):=ai.upd hq1
   have K1:eB K (upd H7 q1 (.tup [.int (aZ fo).1,.int (aZ fo).2])) q1 (aZ fo):=cL.of af
   generalize upd H7 q1 (.tup [.int (aZ fo).1,.int (aZ fo).2])=H8 at NB K1 ⊢
   refine⟨_,rfl,mo,fm,rfl,m4.same (QE.trans NB),F8,λq2 hq2=>⟨by show 4<=sizeLine;decide,λd hd=>⟨d,rfl,(NB.trans (ai.upd hq2)).trans (ai.upd hd),kp,q1,q2,cL.of af,VL.dat (Dat.of ((NB.trans (ai.upd hq2)).trans (ai.upd hd))),K1.same ((ai.upd hq2).trans (ai.upd hd)),eB.same (ai.upd hd) (cL.of af)⟩⟩⟩
  rintro σ H8 ⟨d,rfl,s8,V9⟩
  have ND:=QE.trans s8
  obtain⟨R0,Rt,eR⟩:∃R0 Rt,R=R0::Rt:=by
   cases R with
   |nil=>have h1:=TB.n8.1;simp at h1;omega
   |cons a t=>exact⟨a,t,rfl⟩
  have Si:R[0]? =some R0:=by rw[eR];rfl
  have Uk:R0∈R:=List.mem_of_getElem? Si
  have We:0<R.length:=(List.getElem?_eq_some_iff.mp Si).1
  have Ro:0<rs.length:=by rw[Ni.len];exact We
  have e0:rs[0]? =some rs[0]:=List.getElem?_eq_getElem Ro
  have L8:=Ni.same ND
  obtain⟨ps,hps,hpp⟩:=L8.row 0 rs[0] R0 e0 Si
  have hpl:=Paired.len hpp
  have V1:=hrl _ Uk
  refine⟨λσ H'=>∃v8 IA,σ=[some (.ref s),some (.ref t),some (.int m),some (.str sg),some (.ref l),some (.ref o),some (.ref mo),some (.ref r1),v8,none,some (.ref kp),some (.ref d),IA,none,none]/\ai H8 H',?_,?_⟩
  ·refine⟨_,rfl,_,rfl,by show 2<=sizeLine;decide,λa ha=>?_⟩
   have sa:ai H8 (upd H8 a (.lst [.ref o,.ref mo])):=ai.upd ha
   have MK:upd H8 a (.lst [.ref o,.ref mo]) a=some (.lst [.ref o,.ref mo]):=af
   generalize upd H8 a (.lst [.ref o,.ref mo])=H9 at sa MK ⊢
   refine⟨_,rfl,l,_,_,.ref rs[0],rfl,rfl,bX.of (sa _ _ L8.at_),bO (j:=0) (by rw[List.getElem?_map,e0];rfl),?_⟩
   refine⟨a,rs[0],_,_,rfl,rfl,MK,sa _ _ hps,?_,λb hb=>?_⟩
   ·rw[List.length_map]
    exact Nat.le_trans (show 2+ps.length<=20 by omega) (by decide)
   have sb:ai H9 (upd H9 b (.lst ([.ref o,.ref mo]++ps.map V.ref))):=ai.upd hb
   have G6:upd H9 b (.lst ([.ref o,.ref mo]++ps.map V.ref)) b=some (.lst ((o::mo::ps).map V.ref)):=af
   generalize upd H9 b (.lst ([.ref o,.ref mo]++ps.map V.ref))=DK at sb G6 ⊢
   have Gu:=sa.trans sb
   have pp:Paired (eB K DK) (o::mo::ps) (fo::fm::R0):=.cons (o4.same (ND.trans Gu)) (.cons (m4.same (ND.trans Gu)) (Paired.iW hpp λx y z=>z.same Gu))
   have S8:∀f∈fo::fm::R0,cY f:=λf hf=>by
    rcases List.mem_cons.mp hf with rfl|hf
    ·exact Fw
    ·rcases List.mem_cons.mp hf with rfl|hf
     ·exact F8
     ·exact F7 _ Uk f hf
   generalize o::mo::ps=as at G6 pp
   generalize fo::fm::R0=fs at pp S8
   refine⟨b,rfl,⟨_,bX.of G6⟩,?_⟩
   refine uz (xs:=as.map V.ref) (λi σ' H3=>∃v8 IA,σ'=[some (.ref s),some (.ref t),some (.int m),some (.str sg),some (.ref l),some (.ref o),some (.ref mo),some (.ref r1),v8,none,some (.ref kp),some (.ref d),IA,none,none]/\ai DK H3) ⟨_,_,rfl,ai.refl _⟩ (λi σ' H3 _ h=>?_) ?_ ?_
   ·obtain⟨_,_,_,s3⟩:=h
    exact bX.of (s3 _ _ G6)
   ·rintro i x σ' H3 hx ⟨v8,IA,rfl,s3⟩
    rw[List.getElem?_map]at hx
    obtain⟨q,hq,rfl⟩:=Option.map_eq_some_iff.mp hx
    obtain⟨f,ef,hf⟩:=Paired.at pp hq
    have N5:=S8 f (List.mem_of_getElem? ef)
    refine⟨_,rfl,q,f,rfl,hf.same s3,N5,λWX S1=>?_⟩
    refine⟨_,rfl,_,_,_,_,rfl,.str _,gG,_,rfl,jK ?_⟩
    refine⟨_,rfl,_,rfl,q,f,rfl,hf.same (s3.trans S1),N5,rfl,_,rfl,?_⟩
    rw[decide_eq_true rfl]
    exact jK ⟨_,_,rfl,s3.trans S1⟩
   ·rintro σ' H3 ⟨v8,IA,rfl,s3⟩
    exact⟨_,_,rfl,Gu.trans s3⟩
  rintro σ H9 ⟨v8,IA,rfl,s9⟩
  have NC:=ND.trans s9
  have Sb:=V9.same s9
  have Rw:=((s7.trans s8).trans s9) _ _ VB
  have RD:∀(H':Hp),nN K H' d sg (gU R) (aZ fo) (aZ fm)->nN K H' d sg (gU (gU R)) (aZ (aZ fo)) (aZ (aZ fm)):=λH' hD=>by
   rw[Df F7,gF (by have:=Fw.pos;omega),gF (by have:=F8.pos;omega)]
   exact hD
  have SV:=D5 (D6 TB) F7 Fw F8
  have Vw:=sL TB.n8 (by omega) F7 Fw F8
  refine⟨λσ H'=>H'=H9/\σ=[some (.ref s),some (.ref t),some (.int m),some (.str sg),some (.ref l),some (.ref o),some (.ref mo),some (.ref r1),v8,none,some (.ref kp),some (.ref d),IA,some (.str (jn (gy sg R fo fm))),none],?_,?_⟩
  ·exact⟨rfl,_,rfl,_,r1,gy sg R fo fm,rfl,rfl,.inl (bX.of Rw),(by show 1<=1;decide),Vw,by rw[TB.length];omega,rfl,rfl⟩
  rintro σ Nn ⟨rfl,rfl⟩
  refine⟨λσ H'=>ai Nn H'/\σ=[some (.ref s),some (.ref t),some (.int m),some (.str sg),some (.ref l),some (.ref o),some (.ref mo),some (.ref r1),v8,none,some (.ref kp),some (.ref d),some (.str (jn (gy sg R fo fm))),some (.str (jn (gy sg R fo fm))),none],?_,?_⟩
  ·refine⟨_,rfl,_,rfl,_,rfl,_,rfl,λx dx hx hdx Vh=>?_⟩
   have sx:ai Nn (upd (upd Nn dx (.own x)) x (.ins p.au dx [])):=ai.at (ai.upd hdx) hx
   refine⟨x,dx,o,mo,sg,.lst l,R,fo,fm,rfl,af,TB.sig,by omega,(Ni.same (NC.trans sx)).Q4,TB.n8,λr hr f hf=>(F7 r hr f hf).h,o4.same (NC.trans sx),Fw.h,m4.same (NC.trans sx),F8.h,D6 TB,λDK q1 q2 _=>⟨rfl,?_⟩⟩
   refine⟨x,sg,gU R,aZ fo,aZ fm,rfl,q1,by omega,λr hr f hf=>?_,k6 Fw,k6 F8,λOl Eu=>?_⟩
   ·unfold gU at hr
    obtain⟨r',hr',rfl⟩:=List.mem_map.mp hr
    obtain⟨f',hf',rfl⟩:=List.mem_map.mp hf
    exact k6 (F7 r' hr' f' hf')
   ·rw[Lg F7 Fw F8]
    exact⟨λc u hc=>Eu _ _ (q2 _ _ (sx _ _ hc) (λz=>by rw[z,hx]at hc;cases hc)),rfl⟩
  rintro σ DK ⟨S4,rfl⟩
  refine⟨λσ H'=>ai Nn H'/\σ=[some (.ref s),some (.ref t),some (.int m),some (.str sg),some (.ref l),some (.ref o),some (.ref mo),some (.ref r1),v8,none,some (.ref kp),some (.ref d),some (.str (jn (gy sg R fo fm))),some (.str (jn (gy sg R fo fm))),none],?_,?_⟩
  ·refine⟨_,rfl,_,_,_,_,rfl,.str _,gG,_,rfl,jK ?_⟩
   refine⟨_,rfl,_,rfl,rfl,_,rfl,?_⟩
   rw[decide_eq_true rfl]
   exact jK ⟨_,rfl,_,rfl,gy sg R fo fm,d,gU R,aZ fo,aZ fm,rfl,TB.HS,TB.good,SV,RD _ (Sb.same S4),λOl Eu=>⟨_,rfl,jK ⟨S4.trans Eu,rfl⟩⟩⟩
  rintro σ Ol ⟨Eu,rfl⟩
  refine⟨λσ H'=>ai Nn H'/\σ=[some (.ref s),some (.ref t),some (.int m),some (.str sg),some (.ref l),some (.ref o),some (.ref mo),some (.ref r1),v8,none,some (.ref kp),some (.ref d),some (.str (jn (gy sg R fo fm))),some (.str (jn (gy sg R fo fm))),none],?_,?_⟩
  ·exact⟨_,rfl,_,_,rfl,rfl,⟨by decide,by decide⟩,_,rfl,_,rfl,m / 9,r1,d,sg,R,fo,fm,rfl,by omega,Eu _ _ Rw,Sb.same Eu,TB,λGa s12=>⟨_,rfl,jK ⟨Eu.trans s12,rfl⟩⟩⟩
  rintro σ Ga ⟨s12,rfl⟩
  have LG:=NC.trans s12
  have Mt:=LG _ _ Cc
  have SR:=w4.trans (Wo.same LG)
  have WB:rD K Ga s t ns (k2+1+1):=hC.off SR Mt (by omega)
  have S5:r1≠t:=λz=>by rw[z,Cc]at Q0;cases Q0
  have Dr:=s12 _ _ Rw
  have Se:=Sb.same s12
  refine⟨λσ H'=>∃(l':Addr) (rows:List Str) (i:Nat),KJ sg rows i/\σ=[some (.ref s),some (.ref t),some (.int m),some (.str sg),some (.ref l),some (.ref o),some (.ref mo),some (.ref r1),v8,some (.int ((i:Nat):Int)),some (.ref kp),some (.ref d),some (.str (jn (gy sg R fo fm))),some (.str (jn (gy sg R fo fm))),some (.ref l')]/\ai (upd Ga t (.lst [.int (k2+1+1+1)])) H'/\H' l'=some (.lst (rows.map V.str)),?_,?_⟩
  ·refine⟨_,rfl,_,rfl,_,rfl,s,t,ns,k2+1+1,r1,sg,R,fo,fm,rfl,WB,by omega,S5,Dr,TB,λq l' rows i DJ SP DO hq hl'=>?_⟩
   exact⟨q,_,rfl,cL.of hq,rfl,_,_,rfl,_,_,rfl,rfl,l',rows,i,SP,rfl,DO,hl'⟩
  rintro σ DJ ⟨l',rows,i,SP,rfl,DO,hl'⟩
  have UD:=SR.trans (Wo.step DO)
  have Rm:=DO _ _ af
  have Sd:=(Se.off Mt).same DO
  have Rx:DJ r1=some (.lst ((gy sg R fo fm).map V.str)):=DO _ _ (by rw[az S5];exact Dr)
  refine⟨λσ H'=>∃(l2:Addr) (vM:List Str),mD vM i/\DI vM/\σ=[some (.ref s),some (.ref t),some (.int m),some (.str sg),some (.ref l),some (.ref o),some (.ref mo),some (.ref r1),v8,some (.int ((i:Nat):Int)),some (.ref kp),some (.ref d),some (.str (jn (gy sg R fo fm))),some (.str (jn (gy sg R fo fm))),some (.ref l2)]/\ai DJ H'/\H' l2=some (.lst (vM.map V.str)),?_,?_⟩
  ·refine⟨_,rfl,_,_,rfl,.inl ⟨_,bX.of hl',rfl⟩,_,rfl,_,_,rfl,.inl ⟨_,bX.of Rx,rfl⟩,rfl,_,rfl,?_⟩
   refine jo (λz=>?_) λz=>⟨l',rows,SP.bad,SP.ok,rfl,ai.refl _,hl'⟩
   refine⟨_,rfl,_,_,rfl,rfl,⟨by decide,by decide⟩,_,_,rfl,rfl,(by show(0:Int)<_;decide),rfl,_,rfl,?_⟩
   refine jo (λy=>?_) λy=>⟨l',rows,SP.bad,SP.ok,rfl,ai.refl _,hl'⟩
   have Rp:rows.length=sg.cps.size+2:=by
    rw[List.length_map,List.length_map,TB.length]at z
    omega
   have TU:=SP.len
   refine⟨_,rfl,by show 1<=sizeLine;decide,λa ha=>?_⟩
   have sa:ai DJ (upd DJ a (.lst [.str (Str.ofString "1 2")])):=ai.upd ha
   have MK:upd DJ a (.lst [.str (Str.ofString "1 2")]) a=some (.lst [.str (Str.ofString "1 2")]):=af
   generalize upd DJ a (.lst [.str (Str.ofString "1 2")])=Uy at sa MK ⊢
   refine⟨l',a,_,_,rfl,rfl,sa _ _ hl',MK,?_,λb hb=>?_⟩
   ·rw[List.length_map]
    exact Nat.le_trans (show rows.length+1<=20 by omega) (by decide)
   exact⟨b,rows++[Str.ofString "1 2"],SP.bad.app SP.ok.ne (SP.at_ Rp),BY SP.ok (by omega) (by decide +kernel) (by decide +kernel),rfl,sa.trans (ai.upd hb),by rw[af,List.map_append];rfl⟩
  rintro σ Uy ⟨l2,vM,hB,hL,rfl,UR,hl2⟩
  refine⟨λσ H'=>σ=[some (.ref s),some (.ref t),some (.int m),some (.str sg),some (.ref l),some (.ref o),some (.ref mo),some (.ref r1),v8,some (.int ((i:Nat):Int)),some (.ref kp),some (.ref d),some (.str (jn (gy sg R fo fm))),some (.str (jn (gy sg R fo fm))),some (.ref l2)]/\ai Uy H',?_,?_⟩
  ·refine⟨rfl,_,rfl,_,l2,vM,rfl,rfl,.inl (bX.of hl2),(by show 1<=1;decide),hL.row,Nat.le_trans hL.len (by decide),?_⟩
   refine⟨vM,rfl,hL,.inr ⟨i,hB,λq WA QH hq=>?_⟩⟩
   refine⟨_,rfl,by show 2<=sizeLine;decide,λq2 hq2=>?_⟩
   exact⟨.ref q,.ref q2,rfl,mK.two (ai.tup (ai.upd hq2) hq) (cL.of af) (.flat (.inl ⟨_,rfl,rfl⟩)) (.flat (.inr ⟨_,rfl,rfl⟩)),λUx QG=>⟨_,rfl,jK ⟨rfl,(QH.trans (ai.upd hq2)).trans QG⟩⟩⟩
  rintro σ WA ⟨rfl,QH⟩
  have HH:=UR.trans QH
  refine⟨_,rfl,_,rfl,gy sg R fo fm,d,gU R,aZ fo,aZ fm,rfl,TB.HS,TB.good,SV,RD _ (Sd.same HH),λUx QG=>?_⟩
  have sf:=HH.trans QG
  exact kk (k2+1+1+1) Ux (UD.trans (Wo.same sf)) (sf _ _ Rm) (by omega) (by omega)
end
section
variable{P:Program}{w:World}{K:PySem.W.Frag}{mg:Str->Option Value}{base:Heap}
theorem JG {wc j0:Addr} {Fy jq:FuncData} {p:Pm} (T:Txt K mg p) (FW:Dn K mg "law" oH K0 wc Fy) (iT:Dn K mg "_law_one" nR l6 j0 jq) (DL:aW P w K mg base ee 14 j0 jq l6 (BB K)):aW P w K mg base ee 15 wc Fy K0 (BC K):=by
 refine FW.fn.ok An (λvs H Q E h=>?_) (λcdv A outer s H vs Q E hr h=>?_)
 ·obtain⟨a,ns,rfl,_⟩:=h
  rfl
 ·obtain⟨a,ns,rfl,hS,hlen,kk⟩:=h
  refine⟨_,(ak (aE (i:=1) An.nd rfl (Or.inl rfl) (fk (aa aj ah)))
   (ak (jM PassesOwn.never rfl (jl rfl T.lP (aa (aB gu aj (ay (DC rfl) rfl T.Lc KC (aa aj (aa (aB gw (ay (bL) rfl T.dG b6 (aa (pv 0) ah)) aj) ah)))) ah)) (bD (i:=2) An.nd rfl (Or.inl rfl)) (aq (ck (jk (cT (aD DL (hr.mono (by decide)) rfl iT.m iT.fn.kp iT.b .nil bB (aa (pv 0) (aa (pv 1) ah))))) (aq (aR pX)) aY)))
   (aq (aR pX)))),?_⟩
  refine⟨by show 1<=sizeLine;decide,λt ht=>?_⟩
  have c1:rD K (upd H t (.lst [.int 0])) a t ns 0:=by
   refine⟨?_,hlen,af,by decide⟩
   rw[Wo.set]
   exact ai.seq (λb u e=>Wo.in (bz e ht) e) hS
  generalize upd H t (.lst [.int 0])=H1 at c1 ⊢
  obtain⟨n,hn,hn2⟩:∃n:Nat,1+(if(((ns.map V.int).length:Nat):Int) / 20<1 then(((ns.map V.int).length:Nat):Int) / 20 else 1)=(n:Int)/\n<=2:=by
   rw[List.length_map]
   by_cases e:((ns.length:Nat):Int) / 20<1
   ·rw[if_pos e];exact⟨(1+((ns.length:Nat):Int) / 20).toNat,by omega,by omega⟩
   ·rw[if_neg e];exact⟨2,by omega,by omega⟩
  refine⟨_,rfl,_,_,rfl,.inl ⟨_,c1.QB,rfl⟩,_,_,rfl,rfl,⟨by decide,by decide⟩,_,_,rfl,_,_,rfl,rfl,(n:Int),(by rw[←hn]),by omega,by omega,?_⟩
  rw[show((n:Nat):Int).toNat=n by omega]
  refine nW (lo:=0) (n:=n) (λi σ' H3=>∃(v2:Option V) (k:Int),σ'=[some (.ref a),some (.ref t),v2]/\rD K H3 a t ns k/\k<=400*(i:Int)) ⟨_,0,rfl,c1,by omega⟩ ?_ ?_
  ·rintro i σ' H3 hi ⟨v2,k,rfl,c3,hk⟩
   have k0:=c3.k0
   exact⟨_,rfl,_,rfl,a,t,ns,k,rfl,c3,by omega,λk' H4 w4 Cc b1 b2=>⟨_,rfl,jK ⟨_,k',rfl,c3.off w4 Cc (by omega),by omega⟩⟩⟩
  ·rintro σ' H3 ⟨v2,k,rfl,c3,hk⟩
   exact kk H3
end
def lN(K:PySem.W.Frag)(x y:Str)(s:Stmt):Prop:=∃f oc od sl kV dc pm an cd ct,PySem.W.nsIn K mainGlobals x=some (some (.ref f))/\K.lookup f=some ⟨oc,od,.func (PySem.W.fnOf y y (iG s) (fW s) (aC s) .none kV dc pm an cd ct),sl⟩/\PySem.W.codeIn K cd y=true/\PySem.W.keepIn K (.ref f)=true
theorem lN.mk{K:PySem.W.Frag}{x y:Str}{s:Stmt}{f:Addr}{oc kV dc pm cd ct:Value}{od an:Option Addr}{sl:Array (Option Value)}(a:PySem.W.nsIn K mainGlobals x=some (some (.ref f)))(l:K.lookup f=some ⟨oc,od,.func (PySem.W.fnOf y y (iG s) (fW s) (aC s) .none kV dc pm an cd ct),sl⟩)(c:PySem.W.codeIn K cd y=true)(k:PySem.W.keepIn K (.ref f)=true):lN K x y s:=⟨f,oc,od,sl,kV,dc,pm,an,cd,ct,a,l,c,k⟩
theorem M4{K:PySem.W.Frag}{h:Heap}{mg:Str->Option Value}{x y:Str}{s:Stmt}{ps:List Str}(X:K.In h)(G:h.Ns mainGlobals mg)(d:lN K x y s)(b:∀(kV doc pm:Value) (an:Option Addr) (cdv ct:Value) (us:List Value),us.length=ps.length->bindArgs (PySem.W.fnOf y y (iG s) (fW s) (aC s) .none kV doc pm an cdv ct) ⟨us,[]⟩=pure (ps.zip us):=by intro _ _ _ _ _ _ us hl;first|(obtain⟨_,rfl⟩:=GP.GU hl;exact rfl)|(obtain⟨_,_,rfl⟩:=GP.GS hl;exact rfl)|(obtain⟨_,_,_,rfl⟩:=GP.JM hl;exact rfl)|(obtain⟨_,_,_,_,rfl⟩:=GP.JL hl;exact rfl)|(obtain⟨_,_,_,_,_,rfl⟩:=GP.GR hl;exact rfl)|(obtain⟨_,_,_,_,_,_,rfl⟩:=GP.Mc hl;exact rfl)):∃f fd,Da K mg x y s ps f fd:=by
 obtain⟨f,oc,od,sl,kV,dc,pm,an,cd,ct,a,l,c,k⟩:=d
 exact⟨f,_,uy l c k,(uy l c k).binds b,PySem.W.mg_of X G a⟩
theorem dg{K:PySem.W.Frag}{h:Heap}{mg:Str->Option Value}{x:Str}{s:Stmt}{ps:List Str}(X:K.In h)(G:h.Ns mainGlobals mg)(d:lN K x x s)(b:∀(kV doc pm:Value) (an:Option Addr) (cdv ct:Value) (us:List Value),us.length=ps.length->bindArgs (PySem.W.fnOf x x (iG s) (fW s) (aC s) .none kV doc pm an cdv ct) ⟨us,[]⟩=pure (ps.zip us):=by intro _ _ _ _ _ _ us hl;first|(obtain⟨_,rfl⟩:=GP.GU hl;exact rfl)|(obtain⟨_,_,rfl⟩:=GP.GS hl;exact rfl)|(obtain⟨_,_,_,rfl⟩:=GP.JM hl;exact rfl)|(obtain⟨_,_,_,_,rfl⟩:=GP.JL hl;exact rfl)|(obtain⟨_,_,_,_,_,rfl⟩:=GP.GR hl;exact rfl)|(obtain⟨_,_,_,_,_,_,rfl⟩:=GP.Mc hl;exact rfl)):∃f fd,Dn K mg x s ps f fd:=by
 obtain⟨f,fd,e⟩:=M4 X G d b
 exact⟨f,fd,e.fn,e.b,e.m⟩
theorem all_mk {l:PySem.W.OpenLaw} {w:World} {K:PySem.W.Frag} {h:Heap} {mg:Str->Option Value} {fa:Addr} (X:K.In h) (G:h.Ns mainGlobals mg) (NU:mg "law" =some (.ref fa))
  {jR:Tok}
  {kB:Tok}
  {iL:Addr} {y9:Option Addr} {AL:Nat} {yM:Array (Option Value)} {yE yD yC:Tok}
  {lQ:Tok}
  {nP:Tok}
  {wL:Tok}
  {iZ:Tok}
  {nO:Tok}
  {iY:Tok}
  {au:Addr}
  {bV:Addr}
  {bx:Addr}
  {av:Addr}
  {fJ:Addr}
  {gI:Addr}
  {gJ:Addr}
  (u0:PySem.W.nsIn K mainGlobals "FIRST_SIGN" =some (some (.int 32 jR)))
  (u1:PySem.W.nsIn K mainGlobals "LAST_SIGN" =some (some (.int 126 kB)))
  (u2:PySem.W.nsIn K mainGlobals "NO_SIGNS" =some (some (.ref iL)))
  (u3:K.lookup iL=some ⟨.type "tuple",y9,.seq #[.int 34 yE,.int 37 yD,.int 45 yC] AL,yM⟩)
  (u4:PySem.W.nsIn K mainGlobals "LINE_END" =some (some (.str (Str.ofString "\n") lQ)))
  (u5:PySem.W.nsIn K mainGlobals "BETWEEN" =some (some (.str (Str.ofString " ") nP)))
  (u6:PySem.W.nsIn K mainGlobals "LINE" =some (some (.str (Str.ofString "/") wL)))
  (u7:PySem.W.nsIn K mainGlobals "BELOW_NOUGHT" =some (some (.str (Str.ofString "-") iZ)))
  (u8:PySem.W.nsIn K mainGlobals "FIGURES" =some (some (.str (Str.ofString "0123456789") nO)))
  (u9:PySem.W.nsIn K mainGlobals "MOST_FIGURES" =some (some (.int 60 iY)))
  (Qg:PySem.W.nsIn K mainGlobals "Prices" =some (some (.ref au)))
  (Qf:PySem.W.plainGet K au Str.empty=true) (Qe:PySem.W.hasDictIn K au=true) (Qd:PySem.W.plainOver K au=true) (Qc:PySem.W.findIn K (.ref au) "__setattr__" =some (some (.builtin "object.__setattr__"))) (Qa:PySem.W.makesIn K au=true) (P9:PySem.W.keepIn K (.ref au)=true)
  (u17:cV K au "signs")
  (P8:cV K au "pairs")
  (P7:cV K au "opening")
  (P6:cV K au "more")
  (P5:cV K au "factors")
  (P1:cV K au "unit")
  (P0:cV K au "costs")
  (PZ:cV K au "opening_units")
  (PY:cV K au "more_units")
  (u26:PySem.W.isIn K (.ref au) au=true)
  (PX:PySem.W.nsIn K mainGlobals "WeaveError" =some (some (.ref bV)))
  (PV:PySem.W.hasDictIn K bV=true) (PU:PySem.W.typeIn K (.ref bV)=some (.type "type")) (PR:PySem.W.mroIn K bV (.type "BaseException")=some true)
  (PN:PySem.W.nsIn K mainGlobals "NoPrices" =some (some (.ref bx)))
  (u32:PySem.W.excIn K bx [.type "ValueError",.type "Exception",.type "BaseException",.type "object"] "ValueError.__new__" =true)
  (PM:PySem.W.hasDictIn K bx=true) (PL:PySem.W.typeIn K (.ref bx)=some (.type "type")) (PK:PySem.W.mroIn K bx (.type "BaseException")=some true)
  (PF:PySem.W.nsIn K mainGlobals "NoText" =some (some (.ref av)))
  (PD:PySem.W.findIn K (.ref av) "__getattribute__" =some (some (.builtin "BaseException.__getattribute__")))
  (PC:PySem.W.findIn K (.ref av) "__getattr__" =some none)
  (PB:PySem.W.hasDictIn K av=true)
  (Pz:PySem.W.findIn K (.ref av) "__class__" =some (some (.builtin "object.__class__")))
  (Py:PySem.W.specialIn K (.builtin "object.__class__") "__get__" =some (some (.builtin "getset_descriptor.__get__")))
  (Px:PySem.W.takesIn K (.builtin "object.__class__")=some true)
  (Pw:PySem.W.mroIn K av (.type "object")=some true)
  (Pu:PySem.W.mroIn K av (.type "BaseException")=some true)
  (Pr:PySem.W.nsIn K mainGlobals "NoBlock" =some (some (.ref fJ)))
  (Pq:PySem.W.nsIn K mainGlobals "NoSign" =some (some (.ref gI)))
  (Po:PySem.W.nsIn K mainGlobals "NoNote" =some (some (.ref gJ)))
  (Pn:PySem.W.hasDictIn K av=true) (Pk:((PySem.W.clsIn K av).any λcd=>oV cd.mro)=true) (Pj:PySem.W.findIn K (.ref av) "__setattr__" =some (some (.builtin "object.__setattr__"))) (Ph:PySem.W.keepIn K (.ref av)=true)
  (Pg:cV K av "line")
  (Pf:PySem.W.specialIn K (.ref bV) "__getattribute__" =some (some (.builtin "type.__getattribute__"))) (Pe:PySem.W.readsIn K bV (.type "type")=true) (Pc:PySem.W.findCls K (.ref bV) (.type "type") "__init__" =some (.val (.builtin "ValueError.__init__")))
  (Pb:PySem.W.subIn K (.ref av) (.ref bV)=some true)
  (Pa:PySem.W.subIn K (.ref bx) (.ref bx)=some true)
  (u58:PySem.W.kitOne K (.ref av) (.ref fJ)=some false)
  (O8:PySem.W.kitOne K (.ref av) (.ref gJ)=some false)
  (O7:PySem.W.kitOne K (.ref av) (.ref bx)=some false)
  (O6:PySem.W.kitOne K (.ref av) (.ref gI)=some false)
  (O5:PySem.W.kitOne K (.ref av) (.ref av)=some true)
  (O4:PySem.W.kitOne K (.ref av) (.type "ValueError")=some true)
  {Vc Wu:Option Addr} {UQ:Array (Option Value)} {Vd Vl Wq UZ Uv Wr:Value} {aA:Addr}
  (SW:PySem.W.findIn K (.ref av) "__init__" =some (some (.ref aA))) (O3:PySem.W.isFn K (.ref aA)=true) (O2:K.lookup aA=some ⟨Vd,Vc,.func (PySem.W.fnOf "__init__" "NoText.__init__" (iG bF) (fW bF) (aC bF) .none Vl Wq UZ Wu Uv Wr),UQ⟩) (O1:PySem.W.codeIn K Uv "NoText.__init__" =true) (O0:PySem.W.keepIn K (.ref aA)=true)
  (u69:lN K "greatest_divisor" "greatest_divisor" dY)
  (OZ:lN K "lowest" "lowest" mW)
  (OY:lN K "is_sign" "is_sign" nS)
  (OX:lN K "are_signs" "are_signs" jE)
  (OW:lN K "check_signs" "check_signs" gb)
  (OV:lN K "check_lengths" "check_lengths" iE)
  (OU:lN K "lowest_price" "lowest_price" gA)
  (OT:lN K "lowest_prices" "lowest_prices" iD)
  (OS:lN K "all_unders" "all_unders" jY)
  (OR:lN K "unit_factors" "unit_factors" i8)
  (OQ:lN K "product_of" "product_of" jU)
  (OP:lN K "by_unit" "by_unit" lz)
  (OO:lN K "costs_by_signs" "costs_by_signs" gQ)
  {QV Sz:Option Addr} {QA:Array (Option Value)} {QX Ra Su QO M7 Sx:Value} {aL:Addr}
  (ON:PySem.W.findIn K (.ref au) "__init__" =some (some (.ref aL))) (OM:PySem.W.isFn K (.ref aL)=true) (OL:K.lookup aL=some ⟨QX,QV,.func (PySem.W.fnOf "__init__" "Prices.__init__" (iG bS) (fW bS) (aC bS) .none Ra Su QO Sz M7 Sx),QA⟩) (OJ:PySem.W.codeIn K M7 "Prices.__init__" =true) (OI:PySem.W.keepIn K (.ref aL)=true)
  (OH:lN K "written_number" "written_number" gO)
  (OG:lN K "written_fraction" "written_fraction" cW)
  (OF:lN K "written_fractions" "written_fractions" fz)
  (OD:lN K "written_prices" "written_prices" gM)
  (OC:lN K "is_figures" "is_figures" jX)
  (OB:lN K "read_fraction" "read_fraction" iC)
  (OA:lN K "read_signs" "read_signs" jT)
  (Oz:lN K "read_fractions" "read_fractions" gP)
  (Ox:lN K "read_prices" "read_prices" jw)
  (Ow:lN K "_law_next" "_law_next" gB)
  (Ov:lN K "_law_fraction" "_law_fraction" gC)
  (Ou:lN K "_law_signs" "_law_signs" kH)
  (Ot:lN K "_law_pairs" "_law_pairs" kI)
  (Jf:lN K "_law_part" "_law_part" j9)
  (Je:lN K "_law_same" "_law_same" jj)
  (Jd:lN K "_law_fraction_text" "_law_fraction_text" fB)
  (Jc:lN K "_law_lowest" "_law_lowest" jW)
  (Jb:lN K "_law_spoilt" "_law_spoilt" jV)
  (Ja:lN K "_law_told" "_law_told" j7)
  (I9:lN K "_law_read" "_law_read" j8)
  (I8:lN K "_law_sixty" "_law_sixty" kG)
  (I0:lN K "_law_one" "_law_one" nR)
  {QU M8:Option Addr} {Qz:Array (Option Value)} {QW Mm M1 LO Kz M5:Value} {wc:Addr}
  (Gi:PySem.W.nsIn K mainGlobals "law" =some (some (.ref wc))) (IZ:K.lookup wc=some ⟨QW,QU,.func (PySem.W.fnOf "law" "law" (iG oH) (fW oH) (aC oH) .none Mm M1 LO M8 Kz M5),Qz⟩) (IY:PySem.W.codeIn K Kz "law" =true) (IX:PySem.W.keepIn K (.ref wc)=true)
  (Gh:A7 K av aA=true)
  (IV:PySem.W.nsIn K mainGlobals "abs" =some none)
  (IU:PySem.W.nsIn K mainGlobals "len" =some none)
  (IT:PySem.W.nsIn K mainGlobals "ord" =some none)
  (IS:PySem.W.nsIn K mainGlobals "set" =some none)
  (IQ:PySem.W.nsIn K mainGlobals "tuple" =some none)
  (IP:PySem.W.nsIn K mainGlobals "list" =some none)
  (IM:PySem.W.nsIn K mainGlobals "zip" =some none)
  (IL:PySem.W.nsIn K mainGlobals "range" =some none)
  (IK:PySem.W.nsIn K mainGlobals "isinstance" =some none)
  (IJ:PySem.W.nsIn K mainGlobals "int" =some none)
  (II:PySem.W.nsIn K mainGlobals "bool" =some none)
  (IG:PySem.W.nsIn K mainGlobals "str" =some none)
  (IF:PySem.W.nsIn K mainGlobals "dict" =some none)
  (IE:PySem.W.nsIn K mainGlobals "all" =some none)
  (ID:PySem.W.nsIn K mainGlobals "min" =some none)
  (IC:PySem.W.nsIn K mainGlobals "ValueError" =some none)
  : ∃fd:FuncData,(∀(s:Shared) (v:Value),BindsTo s fd ⟨[v],[]⟩ [("_law_script",v)])/\∀base:Heap,K.In base->base.Ns mainGlobals mg->aW l.prog w K mg base ee 15 fa fd K0 (BC K):=by
 have e:=NU.symm.trans (PySem.W.mg_of X G Gi)
 cases e
 obtain⟨p,hp⟩:∃p:Pm,p=(⟨jR,kB,iL,lQ,nP,wL,iZ,nO,iY,au,bV,bx,av,fJ,gI,gJ⟩:Pm):=⟨_,rfl⟩
 have T:Txt K mg p:=by subst hp;exact⟨PySem.W.mg_none_of X G IV,PySem.W.mg_none_of X G IU,PySem.W.mg_none_of X G IT,PySem.W.mg_none_of X G IS,PySem.W.mg_none_of X G IQ,PySem.W.mg_none_of X G IP,PySem.W.mg_none_of X G IM,PySem.W.mg_none_of X G IL,PySem.W.mg_none_of X G IK,PySem.W.mg_none_of X G IJ,PySem.W.mg_none_of X G II,PySem.W.mg_none_of X G IG,PySem.W.mg_none_of X G IF,PySem.W.mg_none_of X G IE,PySem.W.mg_none_of X G ID,PySem.W.mg_none_of X G IC,PySem.W.mg_of X G u0,PySem.W.mg_of X G u1,PySem.W.mg_of X G u2,λH=>.inr ⟨_,_,_,u3,rfl,rfl,(by show 3<=sizeLine;decide),.cons ⟨_,rfl⟩ (.cons ⟨_,rfl⟩ (.cons ⟨_,rfl⟩ (.nil)))⟩,PySem.W.mg_of X G u4,PySem.W.mg_of X G u5,PySem.W.mg_of X G u6,PySem.W.mg_of X G u7,PySem.W.mg_of X G u8,PySem.W.mg_of X G u9,PySem.W.mg_of X G Qg,⟨Qf,Qe,Qd,Qc⟩,u17,P8,P7,P6,P5,P1,P0,PZ,PY,u26,PySem.W.mg_of X G PX,⟨PV,PU,PR⟩,PySem.W.mg_of X G PN,Ge u32,⟨PM,PL,PK⟩,PySem.W.mg_of X G PF,⟨PD,PC,PB,Pz,Py,Px,Pw,Pu⟩,PySem.W.mg_of X G Pr,PySem.W.mg_of X G Pq,PySem.W.mg_of X G Po,⟨Pn,Pk,Pj⟩,⟨_,yw Gh⟩,Pg,⟨Pf,Pe,Pc⟩,Pb,Pa,u58,O8,O7,O6,O5,O4⟩
 have kR:=uy (st:=bF) O2 O1 O0
 have aM:Dm K "__init__" "NoText.__init__" bF DP _ _:=⟨kR,kR.binds (ps:=DP) λ_ _ _ _ _ _ us hl=>by obtain⟨_,_,rfl⟩:=GP.GS hl;exact rfl⟩
 obtain⟨bP,bJ,aT⟩:=dg (ps:=JQ) X G u69
 obtain⟨jc,gW,fH⟩:=dg (ps:=l8) X G OZ
 obtain⟨j4,jr,iU⟩:=dg (ps:=GW) X G OY
 obtain⟨eX,dJ,cI⟩:=dg (ps:=l7) X G OX
 obtain⟨bZ,bQ,bC⟩:=dg (ps:=GV) X G OW
 obtain⟨eL,dQ,cS⟩:=dg (ps:=Mj) X G OV
 obtain⟨cJ,cu,bq⟩:=dg (ps:=E7) X G OU
 obtain⟨eK,dP,cR⟩:=dg (ps:=l9) X G OT
 obtain⟨ie,gm,fh⟩:=dg (ps:=Ml) X G OS
 obtain⟨fG,eF,dh⟩:=dg (ps:=["unders"]) X G OR
 obtain⟨g7,gh,eZ⟩:=dg (ps:=["factors"]) X G OQ
 obtain⟨ic,fS,cP⟩:=dg (ps:=JP) X G OP
 obtain⟨dW,dD,cH⟩:=dg (ps:=Mi) X G OO
 have kQ:=uy (st:=bS) OL OJ OI
 have bU:Dm K "__init__" "Prices.__init__" bS HU _ _:=⟨kQ,kQ.binds (ps:=HU) λ_ _ _ _ _ _ us hl=>by obtain⟨_,_,_,_,_,rfl⟩:=GP.GR hl;exact rfl⟩
 obtain⟨dS,dw,bM⟩:=dg (ps:=["number"]) X G OH
 obtain⟨bf,aX,aG⟩:=dg (ps:=l8) X G OG
 obtain⟨cN,cD,bh⟩:=dg (ps:=Mh) X G OF
 obtain⟨dR,dm,cG⟩:=dg (ps:=["prices"]) X G OD
 obtain⟨ia,gk,ff⟩:=dg (ps:=l7) X G OC
 obtain⟨eG,dO,cQ⟩:=dg (ps:=l7) X G OB
 obtain⟨g6,gg,eY⟩:=dg (ps:=l9) X G OA
 obtain⟨dU,dB,bN⟩:=dg (ps:=Mg) X G Oz
 obtain⟨gp,fF,dM⟩:=dg (ps:=l7) X G Ox
 obtain⟨bR,bI,aQ⟩:=dg (ps:=l6) X G Ow
 obtain⟨cK,cy,br⟩:=dg (ps:=l6) X G Ov
 obtain⟨iR,gY,fM⟩:=dg (ps:=F3) X G Ou
 obtain⟨iS,gZ,fN⟩:=dg (ps:=F3) X G Ot
 obtain⟨fV,eW,c5⟩:=dg (ps:=F4) X G Jf
 obtain⟨cX,cE,bE⟩:=dg (ps:=F2) X G Je
 obtain⟨cO,cF,aF⟩:=dg (ps:=F1) X G Jd
 obtain⟨g9,gj,bT⟩:=dg (ps:=F1) X G Jc
 obtain⟨g8,gi,e7⟩:=dg (ps:=Me) X G Jb
 obtain⟨fT,eT,cZ⟩:=dg (ps:=JO) X G Ja
 obtain⟨fU,eV,b7⟩:=dg (ps:=JN) X G I9
 obtain⟨iQ,gX,fL⟩:=dg (ps:=Mf) X G I8
 obtain⟨j0,jq,iT⟩:=dg (ps:=l6) X G I0
 have Iw:=uy (st:=oH) IZ IY IX
 have FW:Dn K mg "law" oH K0 _ _:=⟨Iw,Iw.binds (ps:=K0) λ_ _ _ _ _ _ us hl=>by obtain⟨_,rfl⟩:=GP.GU hl;exact rfl,PySem.W.mg_of X G Gi⟩
 have iB:K8 K p.av aA:=by subst hp;exact⟨yw Gh,O3,Ph⟩
 have lJ:Mk K p.au aL:=by subst hp;exact⟨Qa,ON,OM,P9⟩
 refine⟨PySem.W.fnOf "law" "law" (iG oH) (fW oH) (aC oH) .none Mm M1 LO M8 Kz M5,λs v=>.of_eq rfl,λbase _ _=>?_⟩
 have ko:=oh (P:=l.prog) (w:=w) (base:=base) T aT
 have zR:=CZ T fH aT ko
 have nJ:=rW T bq fH zR
 have sr:=qN T cR bq nJ
 have yf:=vf (P:=l.prog) (w:=w) (base:=base) T fh
 have uL:=rV T dh aT ko
 have xW:=uZ (P:=l.prog) (w:=w) (base:=base) T eZ
 have wD:=AG (P:=l.prog) (w:=w) (base:=base) T cP
 have DF:=AF (P:=l.prog) (w:=w) (base:=base) T iU
 have rR:=xx T cI iU DF
 have vq:=tY T bC cI rR
 have sy:=qP (P:=l.prog) (w:=w) (base:=base) T cS
 have rz:=p7 T cH cP wD
 have kO:=pA T bU bC vq cS sy cR sr bq nJ fh yf dh uL eZ xW cH rz cP wD
 have kj:=yZ (P:=l.prog) (w:=w) (base:=base) T aQ
 have nK:=rX T br aQ kj
 have uO:=yY (P:=l.prog) (w:=w) (base:=base) T c5
 have zT:=xu T fM aQ kj
 have zU:=xw T fN aQ kj br nK
 have su:=qO T bC cI rR
 have kP:=pB (P:=l.prog) (w:=w) (base:=base) T aM
 have oz:=ni (P:=l.prog) (w:=w) (base:=base) T aM
 have rm:=p5 (P:=l.prog) (w:=w) (base:=base) T bM
 have iM:=n9 T aG fH zR bM rm
 have ye:=ve (P:=l.prog) (w:=w) (base:=base) T ff
 have oq:=ng T bh aG iM
 have sj:=qM T cQ ff ye aG iM
 have rj:=pZ T cG bh oq
 have xV:=uY T eY bC su aM iB oz
 have rq:=p6 T bN aM iB kP cQ sj
 have vo:=tW T dM eY xV bN rq aM iB kP bU lJ kO
 have vp:=tX (P:=l.prog) (w:=w) (base:=base) T bE
 have x9:=jx (d:=0) T bE vp
 have xZ:=jx (d:=1) T bE x9
 have xY:=jx (d:=2) T bE xZ
 have qw:=jx (d:=3) T bE xY
 have ow:=nh T aF c5 uO
 have yd:=vd T bT c5 uO
 have uM:=yW T cZ dM vo
 have uN:=yX T b7 cZ uM bE qw
 have zS:=xr T fL b7 uN
 have xX:=vc T e7 aQ kj
 have DE:=AE T iT aQ kj fM zT fN zU br nK aF ow bT yd aG iM cG rj bU lJ kO b7 uN fL zS e7 xX cZ uM bE qw
 have Nb:=JG T FW iT DE
 exact Nb
theorem walk{l:PySem.W.OpenLaw}{q:Program}{loose:List Str}{XP:(Str->Option Value)->Heap->Prop}{as:List Addr}{N t:Nat}{d:DefRec}{K:Params->PySem.W.Frag}(hn:l.most=some 63)(hdf:d.params.defaults=[])
  (hk:∀P,as=(K P).map (·.1)) (ht:∀P,wK (K P) t=true)
  (F:∀(w:World) (mg:Str->Option Value) (fa:Addr) (h:Heap),(K w.params).In h->h.Ns mainGlobals mg->mg d.name=some (.ref fa) →
   ∃fd:FuncData,(∀(s:Shared) (u:Value),BindsTo s fd ⟨[u],[]⟩ [("_law_script",u)])/\∀base:Heap,(K w.params).In base->base.Ns mainGlobals mg->aW l.prog w (K w.params) mg base ee 15 fa fd K0 (BC (K w.params))) :
  PySem.W.WalkX q loose XP (PySem.W.X.obsZ as) (PySem.W.X.valZ K N t) l.row.toRowW d [] (λf vs=>PySem.call f vs) :=
 L2.DY (n:=63) (k:=15) (x:= "_law_script") (CX:=λ_=>ee) (sp:=λw=>BC (K w.params)) hn (by decide) hdf ⟨rfl,by decide,by decide⟩ hk ht F (λ_ _ a ns hl _ hS=>⟨a,ns,rfl,hS,hl,λ_=>rfl⟩) λ_ _ _ _ _ z=>z
end Om
namespace PySem.W.Fast
def tw8398047713016920495:=0
def tw13958277618969788161:=0
def tw4891677557284467961:=0
def tw4065607306076452027:=0
def tw832632395033777683:=0
def tw7397395931023061261:=0
def tw3473779372342510573:=0
def tw16697056275401187861:=0
def tw3357166410597733604:=0
def tw7662144898874195654:=0
def tw14482896184936696432:=0
def tw14424820466180720685:=0
def tw6653238978487552367:=0
def tw2574562258043398543:=0
def tw5177211313459651827:=0
def tw4468460843236138376:=0
def tw13467516304442964903:=0
def tw10878716409149383870:=0
def tw17519128964812088211:=0
def tw4536955714804552161:=0
def tw14256591074328895799:=0
def tw15797800290929752656:=0
def tw1605361546290706976:=0
def tw17139962323332625580:=0
def tw4108291053534752054:=0
def tw5721233478719600016:=0
def tw17648611553946746015:=0
def tw3839121500682043355:=0
def tw5126302284319346347:=0
def tw1428327265329634903:=0
def tw12675912264212215220:=0
def tw17613383527076776823:=0
def tw14023355923382752294:=0
def tw2054699963942762431:=0
def tw666945007547065693:=0
def tw5546659559823081101:=0
def tw10415721057549549847:=0
def tw16530104887495831231:=0
def tw5900557813567641697:=0
def tw4010454478988184304:=0
def tw2808571106578089761:=0
def tw16805077032859579930:=0
def tw2999790695588424701:=0
def tw819098430147105820:=0
def tw12210898400724565242:=0
def tw10780562909121898190:=0
def tw1228898125972718659:=0
def tw15702480421377371818:=0
def tw964787547800053173:=0
def tw4037590700931920968:=0
def tw4347839005764440129:=0
def tw5056120857795943224:=0
def tw11773979745419371754:=0
def tw17085035106966870256:=0
def tw13884971044750495853:=0
def tw3521512726200685465:=0
def tw850203675060004721:=0
def tw17417466123341804709:=0
def tw8059747595299819600:=0
def tw13001341676155751734:=0
def tw11990991888930336875:=0
def tw3801342578296693505:=0
def tw3596095436951995669:=0
def tw8808264145281973063:=0
def tw4771924926202143815:=0
def tw2015711002390211930:=0
def tw7022362573009068969:=0
def tw9400532846903778451:=0
def tw2083730149904924926:=0
def tw2291045192534360275:=0
def tw12619507229819398267:=0
def tw17357972433611173115:=0
def tw6635062461157474481:=0
def tw6829737029702128000:=0
def tw2502290375045393287:=0
def tw16216743570709346394:=0
def tw10201609625172355023:=0
def tw17702210767378357497:=0
def tw13767482156681521358:=0
def tw13655845547494717690:=0
def tw3504803963510273417:=0
def tw618144406426076500:=0
def tw13259208022663438747:=0
def tw16250781444185886080:=0
def tw17671778428244126522:=0
def tw10354278755199915401:=0
def tw12414264350156532220:=0
def tw14990112590691019836:=0
def tw11001389636188833040:=0
def tw12421240423495858288:=0
def tw638087312910859502:=0
def tw16347664006079335434:=0
def tw15180370391977787429:=0
def tw15554123196967537924:=0
def tw10452238092501952570:=0
def tw12225381805923660041:=0
def tw4508927366490051570:=0
def tw11497292942711163638:=0
def tw11783838305318684707:=0
def tw3178465310389706412:=0
def tw13838875928751927030:=0
def tw3469842433596180249:=0
def tw2424388726019943300:=0
def tw17728602911488083688:=0
def tw7494205998980274682:=0
def tw1892265325536327325:=0
def tw9604977354701525623:=0
def tw7106676086052737121:=0
def tw14201052629727510387:=0
def tw14257822310366390847:=0
def tw6279959809831018119:=0
def tw7425903517296963610:=0
def tw597162799177106432:=0
def tw9886104004844191654:=0
def tw8164267189465848815:=0
def tw7222647572971098610:=0
def tw13337859740078978665:=0
def tw11355053639756434375:=0
def tw6615607143120443874:=0
def tw6378679198546320748:=0
def tw5735696492345235841:=0
def tw1868657716691778139:=0
def tw4999204954607942939:=0
def tw4144929759576847975:=0
def tw779423592686134517:=0
def tw5642730781982303024:=0
def tw1431125061507369082:=0
def tw4399665742101614798:=0
def tw9009995515788056407:=0
def tw15218751822286083553:=0
def tw2881780600518676070:=0
def tw11500974583438067377:=0
def tw15535454014937934084:=0
def tw873617187123838045:=0
def tw17272869929560335497:=0
def tw6859712596750767651:=0
def tw866098408817226212:=0
def tw7669737013759131326:=0
def tw9660250112911742510:=0
def tw5089009101071923283:=0
def tw9288573935106898621:=0
def tw11189294063597476709:=0
def tw4159043898676900730:=0
def tw8721901689491615544:=0
def tw9099028482298741056:=0
def tw2745661944241418129:=0
def tw4967023651390943166:=0
def tw11543040729931610321:=0
def tw9198827230565251977:=0
def tw2807291392660346518:=0
def tw8738782040491450772:=0
def tw4230077444922945240:=0
def tw15595491572336630218:=0
def tw17189782814561815394:=0
def tw15212076170023662545:=0
def tw16002729405463370426:=0
def tw12711170590532863512:=0
def tw11298502047018730034:=0
def tw9259486859395055162:=0
def tw11345225625019902709:=0
def tw8597719236810190061:=0
def tw11551955589577295253:=0
def tw5837395213692267355:=0
def tw14352613798820516491:=0
def tw12323174699018239780:=0
def tw2112130788619205088:=0
def tw13770608735146866314:=0
def tw3149434945642604101:=0
def tw1047270217403533311:=0
def tw197413241799594029:=0
def tw5243656824574082482:=0
def tw14353170039888661436:=0
def tw12949722336139250868:=0
def tw15505483753202652707:=0
def tw16373937303910720740:=0
def tw6159589319372608223:=0
def tw8145110903823595135:=0
def tw3340650832580921593:=0
def tw12448573612081244280:=0
def tw3628096203448712621:=0
def tw14032876124439803365:=0
def tw8000210393226987098:=0
def tw6211547468967548439:=0
def tw7241551590504655503:=0
def tw16205675403305637950:=0
def tw12063638362566093959:=0
def tw4871699188388245884:=0
def tw5356604554948397962:=0
def tw2315885808542510921:=0
def tw5207070505044214931:=0
def tw8085760431949033168:=0
def tw17665621202777412784:=0
def tw1889291016109553292:=0
def tw6709237995742213884:=0
def tw15363653994914826154:=0
def tw3143873758165770819:=0
def tw3850397672421146887:=0
def tw4033449037828641688:=0
def tw12084287933897092330:=0
def tw15326018947927486898:=0
def tw2836422772386514020:=0
def tw15455226606941297786:=0
def tw14030089974141468866:=0
def tw2576781004311490197:=0
def tw6886557859075859591:=0
def tw1300922683825737385:=0
def tw6335593026156303823:=0
def tw5444556984343892982:=0
def tw13677029068554110208:=0
def tw3629763521576100486:=0
def tw11217710937005308642:=0
def tw626030191788589643:=0
def tw16491906189142633491:=0
def tw6229874861097461781:=0
def tw7358016372508809091:=0
def tw3259984530801362491:=0
def tw16761051617173196681:=0
def tw15622244143744664354:=0
def tw18025544571416109975:=0
def tw1019048852842817554:=0
def tw12724028824648220815:=0
def tw3202694719280856783:=0
def tw15248987401370300261:=0
def tw1660397731935075161:=0
def tw2052154498844323824:=0
def tw5785860415424531812:=0
def tw12582457939671385297:=0
def tw253917416796219592:=0
def tw3029731120965484345:=0
def tw4958084264345908778:=0
def tw15668729492277014304:=0
def tw10482903286206141395:=0
def tw11501882757470035269:=0
def tw1584098897859944922:=0
def tw18104088202500157468:=0
def tw4452411722697740078:=0
def tw3937989040648288098:=0
def tw107103566817306383:=0
def tw11403610942597363291:=0
def tw6013317161785740502:=0
def tw626393962613447696:=0
def tw14208294214207293344:=0
def tw4388169244213856111:=0
def tw15151178428367442746:=0
def tw8862845063636212317:=0
def tw16302962134712108368:=0
def tw1491562513277980128:=0
def tw12601332137494915352:=0
def tw16212252887772084977:=0
def tw29387840651578075:=0
def tw9892156589623774204:=0
def tw17335406038576507238:=0
def tw4757692502035761682:=0
def tw13747348504375682928:=0
def tw16596888320299984664:=0
def tw9268749436095957711:=0
def tw5749784052276932136:=0
def tw3035096445581685550:=0
def tw11610584777214874222:=0
def tw8155301700554585318:=0
def tw10610268093531231230:=0
def tw8704370096606506930:=0
def tw11741780324063757550:=0
def tw67631921442571095:=0
def tw13182413797582102674:=0
def tw14989446161943056590:=0
def tw6918734895420750482:=0
def tw15734682230371032561:=0
def tw3630291055746819999:=0
def tw16929218525594680484:=0
def tw3098802854880467463:=0
def tw13708753575268987845:=0
def tw8559148691646412196:=0
def tw15837937043844244238:=0
def tw18199995218574108028:=0
def tw9951274161774941698:=0
def tw6431303972374474757:=0
def tw704531293692536303:=0
def tw13547552384923525125:=0
def tw16594789702722247918:=0
def tw12867953339744404760:=0
def tw11097646289643653786:=0
def tw1066074025928361345:=0
def tw9524125862810891570:=0
def tw2005142508034862079:=0
def tw6871644462815594009:=0
def tw9782581794906780708:=0
def tw11562653254839842461:=0
def tw1091580594612932546:=0
def tw2894817066382358870:=0
def tw6978877030317894672:=0
def tw15396797476114494960:=0
def tw15002941936092304022:=0
def tw16845321706913042047:=0
def tw2734908099279611706:=0
def tw1099003086983063862:=0
def tw15262913364132014227:=0
def tw6530232697588491614:=0
def tw9324829051070435520:=0
def tw6397872700585320117:=0
def tw4643284562611482488:=0
def tw5148580468639337474:=0
def tw1169042928741558928:=0
def tw3337117853168979851:=0
def tw10898556772507351429:=0
def tw17587248187420951318:=0
def tw3652275762467073915:=0
def tw14898697273937610409:=0
def tw18427282971910281151:=0
def tw5311748799049516034:=0
def tw4021959304251136863:=0
def tw4204265035853790022:=0
def tw12052968100282715977:=0
def tw4114611552865482286:=0
def tw16932881400768158670:=0
def tw5668438325027453572:=0
def tw13549786086021673330:=0
def tw11620428900064223135:=0
def tw873648823611210814:=0
def tw9414037107315139417:=0
def tw3875367276643710535:=0
def tw14395403544112601104:=0
def tw11902411314311674874:=0
def tw10248625875474828530:=0
def tw3999469000180568647:=0
def tw17164459194354494652:=0
def tw6162694887477009371:=0
def tw1647529492146104684:=0
def tw16925485391085185723:=0
def tw13274433996791515902:=0
def tw14146166157251678159:=0
def tw323307101384590213:=0
def tw2484564612416771:=0
def tw506213958980652375:=0
def tw11726286066715684781:=0
def tw7354764793852874918:=0
def tw5439453439002323998:=0
def tw6645845161305901493:=0
def tw5339936910416704404:=0
def tw11815407937123058523:=0
end PySem.W.Fast
open PySem PySem.W PyProof.Rows
set_option maxRecDepth 100000 in
set_option maxHeartbeats 0 in
theorem PySem.Challenge.cw_gapweave_k66_prices_written_holds : PySem.Challenge.rw_gapweave_k66_prices_written.Holds := by
 w_on;o_law;z_head;(case hw=>w_witness2)
 k_fill
 refine Om.walk (l:=PySem.Challenge.rw_gapweave_k66_prices_written) rfl rfl (λ_=>by kernel_rfl) (λ_=>by kernel_rfl) ?F
 case F =>
  intro w mg fa h KX G hmg
  refine' Om.all_mk KX G hmg ?u0 ?u1 ?u2 ?u3 ?u4 ?u5 ?u6 ?u7 ?u8 ?u9 ?Qg ?Qf ?Qe ?Qd ?Qc ?Qa ?P9 ?u17 ?P8 ?P7 ?P6 ?P5 ?P1 ?P0 ?PZ ?PY ?u26 ?PX ?PV ?PU ?PR ?PN ?u32 ?PM ?PL ?PK ?PF ?PD ?PC ?PB ?Pz ?Py ?Px ?Pw ?Pu ?Pr ?Pq ?Po ?Pn ?Pk ?Pj ?Ph ?Pg ?Pf ?Pe ?Pc ?Pb ?Pa ?u58 ?O8 ?O7 ?O6 ?O5 ?O4 ?SW ?O3 ?O2 ?O1 ?O0 ?u69 ?OZ ?OY ?OX ?OW ?OV ?OU ?OT ?OS ?OR ?OQ ?OP ?OO ?ON ?OM ?OL ?OJ ?OI ?OH ?OG ?OF ?OD ?OC ?OB ?OA ?Oz ?Ox ?Ow ?Ov ?Ou ?Ot ?Jf ?Je ?Jd ?Jc ?Jb ?Ja ?I9 ?I8 ?I0 ?Gi ?IZ ?IY ?IX ?Gh ?IV ?IU ?IT ?IS ?IQ ?IP ?IM ?IL ?IK ?IJ ?II ?IG ?IF ?IE ?ID ?IC
  case u0|u1|u2|u3|u4|u5|u6|u7|u8|u9|Qg|Qf|Qe|Qd|Qc|Qa|P9|PX|PV|PU|PR|PN|PM|PL|PK|PF|PD|PC|PB|Pz|Py|Px|Pw|Pu|Pr|Pq|Po|Pn|Pj|Ph|Pb|Pa|SW|O3|O2|O1|O0|ON|OM|OL|OJ|OI|Gi|IZ|IY|IX|IV|IU|IT|IS|IQ|IP|IM|IL|IK|IJ|II|IG|IF|IE|ID|IC=>k_is
  case u17|P8|P7|P6|P5|P1|P0|PZ|PY|Pg=>(show PySem.W.findIn _ _ _=_;k_is)
  case u26|Pk|Pf|Pe|Pc|Gh=>kernel_rfl
  case u32=>k_exc
  case u58|O8|O7|O6|O5|O4=>kit_is
  case u69|OZ|OY|OX|OW|OV|OU|OT|OS|OR|OQ|OP|OO|OH|OG|OF|OD|OC|OB|OA|Oz|Ox|Ow|Ov|Ou|Ot|Jf|Je|Jd|Jc|Jb|Ja|I9|I8|I0=>(refine' Om.lN.mk ?a ?l ?c ?k;(case a=>k_is);(case l=>k_is);(case c=>k_is);(case k=>k_is))
