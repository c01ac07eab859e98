import PyProof.Rows.All
import Wide.All
import OpenK.AllK
import Wide.FinOn
import Lean
import PyProof.EqAt
import PyProof.EqKinds
import PyProof.TupleCall
import PyProof.NeKinds
import PyProof.Rows.StrStrike
import PyProof.SumWalkG
import PyProof.StrCalls2
import PyProof.Rows.StrItems
import PyProof.Rows.StrJoin2
import PyProof.Truth
import PySem.Challenge.RW_gapweave_k43_join_paper
set_option Elab.async false
set_option linter.all false
set_option maxRecDepth 100000
namespace TK
open PySem
theorem q9m{M:Model}{Γ:Ctx}{p:Pos}{t:Sem PySem.Fin}{fs:List Frame}{s s':Shared}{e:End}(h:Runs M Γ p t fs s e s'):s.toks<=s'.toks:=by
 induction h with
 |fresh _ ih=>exact Nat.le_trans (Nat.le_succ _) ih
 |call _ _ a b=>exact Nat.le_trans a b
 |segRet _ _ a b=>exact Nat.le_trans a b
 |segGen _ _ a b=>exact Nat.le_trans a b
 |resumeFresh _ _ _ _ a b=>exact Nat.le_trans a b
 |resumeSuspended _ _ _ _ a b=>exact Nat.le_trans a b
 |segSuspGen _ _ _ _ a b=>exact Nat.le_trans a b
 |_=>first|exact Nat.le_refl _|assumption
theorem wakes_toks{M:Model}{Γ:Ctx}{p:Pos}{g:Nat}{r:Resume}{s s':Shared}{res:GenResult}(h:Wakes M Γ p g r s res s'):s.toks<=s'.toks:=by
 unfold Wakes at h
 split at h
 ·exact h.elim
 ·split at h
  ·obtain⟨e,s1,a,_,_,rfl⟩:=h;have z:=q9m a;exact z
  ·obtain⟨_,rfl⟩:=h;exact Nat.le_refl _
  ·obtain⟨_,rfl⟩:=h;exact Nat.le_refl _
 ·obtain⟨e,s1,a,_,_,rfl⟩:=h;have z:=q9m a;exact z
 ·obtain⟨_,rfl⟩:=h;exact Nat.le_refl _
 ·obtain⟨_,rfl⟩:=h;exact Nat.le_refl _
theorem wp_up{α:Type}{M:Model}{Γ:Ctx}{n:Nat}(t:Sem α):∀{Q:α->Pos->Shared->Prop} {E:Value->Pos->Shared->Prop} {p:Pos} {s:Shared},n<=s.toks →
  Sem.wp M Γ t (λa p s'=>n<=s'.toks->Q a p s') (λe p s'=>n<=s'.toks->E e p s') p s->Sem.wp M Γ t Q E p s:=by
 induction t with
 |pure a=>intro Q E p s hn h;exact h hn
 |raise e=>intro Q E p s hn h;exact h hn
 |unsupported w=>intro Q E p s hn h;exact h
 |finish e=>intro Q E p s hn h;exact h
 |rule t k ih=>intro Q E p s hn h;exact ih () hn h
 | «at» p' k ih=>intro Q E p s hn h;exact ih () hn h
 |load a q k ih=>intro Q E p s hn h;obtain⟨o,e,h⟩:=h;exact⟨o,e,ih o hn h⟩
 |update a q f k ih=>intro Q E p s hn h;exact⟨h.1,ih () hn h.2⟩
 |alloc o k ih=>intro Q E p s hn h;exact ih _ hn h
 |loadIfAlive a k ih=>intro Q E p s hn h;exact ih _ hn h
 |point l k ih=>intro Q E p s hn h;exact ih () hn h
 |register a k ih=>intro Q E p s hn h;exact h
 |fresh k ih=>intro Q E p s hn h;exact ih _ (Nat.le_succ_of_le hn) h
 |ask k ih=>intro Q E p s hn h;exact ih _ hn h
 |choose src m k ih=>intro Q E p s hn h;exact⟨h.1,ih _ hn h.2⟩
 |os q l k ih=>intro Q E p s hn h;exact ih _ hn h
 |call c hd g l k ih=>intro Q E p s hn h;obtain⟨r,s1,a,h⟩:=h;exact⟨r,s1,a,ih r (Nat.le_trans hn (q9m a)) h⟩
 |handled own k ih=>intro Q E p s hn h;exact ih _ hn h
 |newGen c k ih=>intro Q E p s hn h;exact ih _ hn h
 |genState g k ih=>intro Q E p s hn h;obtain⟨st,e,h⟩:=h;exact⟨st,e,ih _ hn h⟩
 |resume g r l k ih=>intro Q E p s hn h;obtain⟨res,s1,a,h⟩:=h;exact⟨res,s1,a,ih _ (Nat.le_trans hn (wakes_toks a)) h⟩
 |yield v g l k ih=>intro Q E p s hn h;exact h
 |stack k ih=>intro Q E p s hn h;exact ih _ hn h
 |fork c k ih=>intro Q E p s hn h;exact h
 |thread k ih=>intro Q E p s hn h;exact ih _ hn h
 |await a tk tm l k ih=>intro Q E p s hn h;exact h
theorem wpAny_up{α:Type}{M:Model}{A:Around}{t:Sem α}{Q:α->Shared->Prop}{E:Value->Shared->Prop}{s:Shared}{n:Nat}(hn:n<=s.toks)(h:wpAny M A t (λa s'=>n<=s'.toks->Q a s') (λe s'=>n<=s'.toks->E e s') s):wpAny M A t Q E s :=
 λΓ p hΓ=>wp_up t hn (h Γ p hΓ)
theorem codeAny_up{M:Model}{A:Around}{c:Code}{R:Result->Shared->Prop}{s:Shared}{n:Nat}(hn:n<=s.toks)(h:codeAny M A c (λr s'=>n<=s'.toks->R r s') s):codeAny M A c R s:=λΓ p hc hb=>by
 obtain⟨r,s1,a,h⟩:=h Γ p hc hb
 exact⟨r,s1,a,h (Nat.le_trans hn (q9m a))⟩
end TK
set_option Elab.async false
set_option linter.all false
set_option maxRecDepth 100000
namespace L2
open PySem PySem.Spec PyProof.Rows
abbrev Key:=Sum Int Str
def keyIs:Key->Value->Bool
 | .inl k,v=>Value.isInt k v
 | .inr x,v=>Value.isStrOf x v
def keyH(w:World):Key->Int
 | .inl k=>hashInt k
 | .inr x=>hashStr w x
theorem q2k:∀{k:Key} {v:Value},keyIs k v=true->(∃i t,k=Sum.inl i/\v=Value.int i t)\/(∃x t,k=Sum.inr x/\v=Value.str x t)
 | .inl i,v,h=>by
  obtain⟨t,e⟩:=Value.isInt_shape (k:=i) (v:=v) h
  exact .inl ⟨i,t,rfl,e⟩
 | .inr x,v,h=>by
  obtain⟨t,e⟩:=Value.isStrOf_shape (x:=x) (v:=v) h
  exact .inr ⟨x,t,rfl,e⟩
theorem keyIs_int(i:Int)(t:Tok):keyIs (.inl i) (.int i t)=true:=by simp[keyIs,Value.isInt]
theorem keyIs_str(x:Str)(t:Tok):keyIs (.inr x) (.str x t)=true:=by simp[keyIs,Value.isStrOf]
theorem key_ll(a b:Int):decide ((Sum.inl a:Key)=Sum.inl b)=(a==b):=by
 by_cases e:a=b
 ·subst e;simp
 ·have h:¬(Sum.inl a:Key)=Sum.inl b:=λq=>e (Sum.inl.inj q)
  rw[decide_eq_false h]
  exact(beq_eq_false_iff_ne.mpr e).symm
theorem key_rr(a b:Str):decide ((Sum.inr a:Key)=Sum.inr b)=decide (a=b):=by
 by_cases e:a=b
 ·subst e;simp
 ·have h:¬(Sum.inr a:Key)=Sum.inr b:=λq=>e (Sum.inr.inj q)
  rw[decide_eq_false h,decide_eq_false e]
theorem key_lr(a:Int)(b:Str):decide ((Sum.inl a:Key)=Sum.inr b)=false:=decide_eq_false (λq=>nomatch q)
theorem key_rl(a:Str)(b:Int):decide ((Sum.inr a:Key)=Sum.inl b)=false:=decide_eq_false (λq=>nomatch q)
def q3z(prog:Program)(w:World):PySem.KeyKind prog w Key where
 is:=keyIs
 hash:=keyH w
 inj:=λv a b ha hb=>by
  rcases q2k ha with⟨i,t,rfl,rfl⟩|⟨x,t,rfl,rfl⟩
  ·rcases q2k hb with⟨j,u,rfl,e⟩|⟨y,u,rfl,e⟩
   ·injection e with e1 _;rw[e1]
   ·exact nomatch e
  ·rcases q2k hb with⟨j,u,rfl,e⟩|⟨y,u,rfl,e⟩
   ·exact nomatch e
   ·injection e with e1 _;rw[e1]
 byValue:=λk v h=>by
  rcases q2k h with⟨i,t,rfl,rfl⟩|⟨x,t,rfl,rfl⟩<;>rfl
 pyHash:=λhv h=>by
  rcases q2k hv with⟨i,t,rfl,rfl⟩|⟨x,t,rfl,rfl⟩
  ·exact wpAny_pyHash_int h
  ·exact wpAny_pyHash_str h
 eqBool:=λhu hv h=>by
  rcases q2k hu with⟨i,t,rfl,rfl⟩|⟨x,t,rfl,rfl⟩
  ·rcases q2k hv with⟨j,u,rfl,rfl⟩|⟨y,u,rfl,rfl⟩
   ·rw[key_ll]at h;exact wpAny_eqBool_int h
   ·rw[key_lr]at h;exact SeqAt.EqAt.int_str i t y u _ _ _ _ h
  ·rcases q2k hv with⟨j,u,rfl,rfl⟩|⟨y,u,rfl,rfl⟩
   ·rw[key_rl]at h;exact SeqAt.EqAt.str_int x t j u _ _ _ _ h
   ·rw[key_rr]at h;exact wpAny_eqBool_str h
 «strs» :=λk x t v h=>by
  rcases q2k h with⟨i,u,rfl,e⟩|⟨y,u,rfl,e⟩
  ·exact nomatch e
  ·injection e with e1 _
   subst e1
   cases v<;>rfl
theorem mixKind_int(prog:Program)(w:World)(i:Int)(t:Tok):(q3z prog w).is (.inl i) (.int i t)=true:=keyIs_int i t
theorem q8z(prog:Program)(w:World)(x:Str)(t:Tok):(q3z prog w).is (.inr x) (.str x t)=true:=keyIs_str x t
end L2
namespace L2
open PySem PySem.Spec PyProof.Rows
inductive V where
 |non|bl (b:Bool)|int (i:Int)|str (x:Str)|byt (b:Array UInt8)|flt (b:UInt64)|ref (a:Addr)|ty (n:String)
 deriving DecidableEq
def RelV:V->Value->Prop
 | .non,u=>u=Value.none
 | .bl b,u=>u=Value.bool b
 | .int i,u=>∃t,u=Value.int i t
 | .str x,u=>∃t,u=Value.str x t
 | .byt b,u=>∃t,u=Value.bytes b t
 | .flt b,u=>∃t,u=Value.float b t
 | .ref a,u=>u=Value.ref a
 | .ty n,u=>u=Value.type n
abbrev Vals:List V->List Value->Prop:=Paired RelV
theorem Vals.length{xs:List V}{us:List Value}(r:Vals xs us):xs.length=us.length:=Paired.length r
theorem Vals.get:∀{xs:List V} {us:List Value} {i:Nat} {x:V},Vals xs us->xs[i]? =some x->∃u,us[i]? =some u/\RelV x u
 |_,_,_,_,.nil,e=>by simp at e
 |_,_,0,_,.cons r _,e=>by simp at e;subst e;exact⟨_,rfl,r⟩
 |_,_,i+1,x,.cons _ t,e=>by
  obtain⟨u,h1,h2⟩:=Vals.get (i:=i) (x:=x) t (by simpa using e)
  exact⟨u,by simpa using h1,h2⟩
theorem Vals.set{x:V}{u:Value}(r:RelV x u):∀{xs:List V} {us:List Value} (i:Nat),Vals xs us->Vals (xs.set i x) (us.set i u)
 |_,_,_,.nil=>.nil
 |_,_,0,.cons _ t=>.cons r t
 |_,_,i+1,.cons q t=>.cons q (Vals.set r i t)
theorem Vals.append:∀{xs ys:List V} {us ws:List Value},Vals xs us->Vals ys ws->Vals (xs++ys) (us++ws)
 |_,_,_,_,.nil,s=>s
 |_,_,_,_,.cons r t,s=>.cons r (Vals.append t s)
theorem Vals.take:∀{xs:List V} {us:List Value} (n:Nat),Vals xs us->Vals (xs.take n) (us.take n)
 |_,_,0,_=>.nil
 |_,_,_+1,.nil=>.nil
 |_,_,n+1,.cons r t=>.cons r (Vals.take n t)
theorem Vals.drop:∀{xs:List V} {us:List Value} (n:Nat),Vals xs us->Vals (xs.drop n) (us.drop n)
 |_,_,0,r=>r
 |_,_,_+1,.nil=>.nil
 |_,_,n+1,.cons _ t=>Vals.drop n t
theorem Vals.none_of:∀{xs:List V} {us:List Value} {i:Nat},Vals xs us->xs[i]? =none->us[i]? =none:=λ{xs us i} r e=>by
 have h1:=r.length
 have h2:xs.length<=i:=List.getElem?_eq_none_iff.mp e
 exact List.getElem?_eq_none_iff.mpr (by omega)
def RelO:Option V->Option Value->Prop
 |some v,some u=>RelV v u
 |none,none=>True
 |_,_=>False
def KV{κ:Type}:List (κ×V)->List (κ×Value)->Prop:=Paired λ(p:κ×V) (q:κ×Value)=>p.1=q.1/\RelV p.2 q.2
def kV:Key->V
 | .inl i=>.int i
 | .inr x=>.str x
inductive HO where
 |lst (xs:List V)
 |tup (xs:List V)
 |dK (kvs:List (Key×V))|dT (kvs:List (List Key×V))
 |set (S:Int->Bool) (n:Nat)
 |ins (C dx:Addr) (fs:List (Str×V))
 |own (x:Addr)
 |xd (fs:List (Str×V))
 |met (f x:Addr)
 |rng (lo hi:Int)
 |frz (o:Obj) (u:HO)
 |tbl (ps:Array Value)
 |ext (φ:Heap->Prop)
abbrev Hp:=Addr->Option HO
def upd(H:Hp)(a:Addr)(o:HO):Hp:=λb=>if b=a then some o else H b
theorem upd_same{H:Hp}{a:Addr}{o:HO}:upd H a o a=some o:=by unfold upd;rw[if_pos rfl]
theorem upd_ne{H:Hp}{a b:Addr}{o:HO}(h:b≠a):upd H a o b=H b:=by unfold upd;rw[if_neg h]
theorem q9r{H:Hp}{a b:Addr}{o u:HO}(h:H a=some o)(h':H b=some u)(d:o≠u):a≠b:=by
 intro e;subst e;rw[h]at h';exact d (Option.some.inj h')
theorem q0x{H:Hp}{a b:Addr}{o:HO}(h:H a=some o)(h':H b=none):a≠b:=by
 intro e;subst e;rw[h]at h';cases h'
section
variable(P:Program)(w:World)
def ObjOk(H:Hp)(h:Heap)(a:Addr):HO->Prop
 | .lst xs=>xs.length<=sizeLine/\∃(its:List Value) (n:Nat),Vals xs its/\h.get? a=some { cls:=.type "list",data:=.seq its.toArray n }
 | .tup xs=>xs.length<=sizeLine/\∃its:List Value,Vals xs its/\IsTup h a its.toArray
 | .dK kvs=>kvs.length<=sizeLine/\(a==sysModules)=false/\∃vs,KV kvs vs/\h.DictOf (q3z P w) a vs
 | .dT kvs=>kvs.length<=sizeLine/\(a==sysModules)=false/\∃xs:List (List Key×Addr×Value),
   Paired (λ(p:List Key×V) (q:List Key×Addr×Value)=>p.1=q.1/\H q.2.1=some (.tup (p.1.map kV))/\RelV p.2 q.2.2) kvs xs ∧
   ∃o es ep,h.get? a=some o/\o.ExactDict/\o.data= .dict es ep/\es.toList=xs.map (entryOfKey (tupleKind (q3z P w)))/\(xs.map (·.1)).Nodup
 | .set S n=>h.SetOf (intKind P w) a S n
 | .ins C dx fs=>H dx=some (.own a)/\fs.length<=1000/\dx≠a/\h.get? a=some (PySem.W.instObj C dx) ∧
   ∃mA,h.Ns1 dx mA/\(∀f,RelO (fs.lookup f) (mA f))/\PySem.Within mA (fs.map (·.1))
 | .own _=>∃o,h.get? a=some o
 | .xd fs=>∃mA,h.Ns1 a mA/\∀f,RelO (fs.lookup f) (mA f)
 | .rng lo hi=>∃t u v,h.get? a=some { cls:=.type "range",data:=.fields #[.int lo t,.int hi u,.int 1 v] }
 | .frz o u=>h.get? a=some o/\ObjOk H h a u
 | .tbl ps=>h.get? a=some { cls:=.none,data:=.fields ps }
 | .met f x=>h.get? a=some (PySem.W.methodObj (.ref f) (.ref x))
 | .ext φ=>φ h/\(∃o,h.get? a=some o)/\∀h1 h2:Heap,φ h1->(∀o,h1.get? a=some o->h2.get? a=some o)->φ h2
def HOk(H:Hp)(h:Heap):Prop:=∀a o,H a=some o->ObjOk P w H h a o
end
section
variable{P:Program}{w:World}{H H':Hp}{h h':Heap}{a:Addr}{o:HO}
theorem ObjOk.lt(x:ObjOk P w H h a o):a<h.objs.size:=by
 cases o with
 |lst xs=>obtain⟨_,_,_,_,e⟩:=x;exact Heap.lt_size e
 |tup xs=>obtain⟨_,_,_,p⟩:=x;exact p.lt
 |dK kvs=>obtain⟨_,_,_,_,o,_,_,e,_⟩:=x;exact Heap.lt_size e
 |dT kvs=>obtain⟨_,_,_,_,o,_,_,e,_⟩:=x;exact Heap.lt_size e
 |set S n=>obtain⟨o,_,_,_,e,_⟩:=x;exact Heap.lt_size e
 |ins C dx fs=>obtain⟨_,_,_,e,_⟩:=x;exact Heap.lt_size e
 |own y=>obtain⟨_,e⟩:=x;exact Heap.lt_size e
 |xd fs=>obtain⟨_,⟨_,_,_,e,_⟩,_⟩:=x;exact Heap.lt_size e
 |rng lo hi=>obtain⟨_,_,_,e⟩:=x;exact Heap.lt_size e
 |frz ob u=>obtain⟨e,_⟩:=x;exact Heap.lt_size e
 |tbl ps=>exact Heap.lt_size (show h.get? a=some _ from x)
 |met f y=>exact Heap.lt_size (show h.get? a=some _ from x)
 |ext φ=>obtain⟨_,⟨_,e⟩,_⟩:=x;exact Heap.lt_size e
theorem Paired.mapP{α β:Type}{F G:α->β->Prop}:∀{l₁:List α} {l₂:List β},Paired F l₁ l₂->(∀a b,F a b->G a b)->Paired G l₁ l₂
 |_,_,.nil,_=>.nil
 |_,_,.cons r t,f=>.cons (f _ _ r) (Paired.mapP t f)
theorem ObjOk.stay(x:ObjOk P w H h a o)(k:∀b u,(b=a\/H b=some (.own a))->h.get? b=some u->h'.get? b=some u)
  (ho:∀b,H b=some (.own a)->H' b=some (.own a)) (ht:∀b xs,H b=some (.tup xs)->H' b=some (.tup xs)):ObjOk P w H' h' a o:=by
 induction o with
 |lst xs=>obtain⟨z,its,n,r,e⟩:=x;exact⟨z,its,n,r,k _ _ (.inl rfl) e⟩
 |tup xs=>obtain⟨z,its,r,ob,e,c⟩:=x;exact⟨z,its,r,ob,k _ _ (.inl rfl) e,c⟩
 |dK kvs=>obtain⟨z,y,vs,r,ob,es,ep,e,c⟩:=x;exact⟨z,y,vs,r,ob,es,ep,k _ _ (.inl rfl) e,c⟩
 |dT kvs =>
  obtain⟨z,y,xs,r,ob,es,ep,e,c⟩:=x
  exact⟨z,y,xs,Paired.mapP r λp q z=>⟨z.1,ht _ _ z.2.1,z.2.2⟩,ob,es,ep,k _ _ (.inl rfl) e,c⟩
 |set S n=>obtain⟨ob,es,ep,t,e,c⟩:=x;exact⟨ob,es,ep,t,k _ _ (.inl rfl) e,c⟩
 |ins C dx fs =>
  obtain⟨d,z,ne,e,mA,⟨od,es,ep,e2,c⟩,r⟩:=x
  exact⟨ho _ d,z,ne,k _ _ (.inl rfl) e,mA,⟨od,es,ep,k _ _ (.inr d) e2,c⟩,r⟩
 |own y=>obtain⟨ob,e⟩:=x;exact⟨ob,k _ _ (.inl rfl) e⟩
 |xd fs=>obtain⟨mA,⟨od,es,ep,e,c⟩,r⟩:=x;exact⟨mA,⟨od,es,ep,k _ _ (.inl rfl) e,c⟩,r⟩
 |rng lo hi=>obtain⟨t,u,v,e⟩:=x;exact⟨t,u,v,k _ _ (.inl rfl) e⟩
 |frz ob u ih=>obtain⟨e,q⟩:=x;exact⟨k _ _ (.inl rfl) e,ih q⟩
 |tbl ps =>
  have e:h.get? a=some { cls:=.none,data:=.fields ps }:=x
  show h'.get? a=some { cls:=.none,data:=.fields ps }
  exact k a _ (.inl rfl) e
 |met f y =>
  have e:h.get? a=some (PySem.W.methodObj (.ref f) (.ref y)):=x
  show h'.get? a=some (PySem.W.methodObj (.ref f) (.ref y))
  exact k a _ (.inl rfl) e
 |ext φ=>obtain⟨p,⟨o,e⟩,st⟩:=x;exact⟨st _ _ p λo q=>k _ _ (.inl rfl) q,⟨o,k _ _ (.inl rfl) e⟩,st⟩
theorem HOk.lt(x:HOk P w H h)(e:H a=some o):a<h.objs.size:=(x a o e).lt
theorem HOk.fresh(x:HOk P w H h)(e:h.objs.size<=a):H a=none:=by
 cases q:H a with
 |none=>rfl
 |some u=>exact absurd (Nat.lt_of_lt_of_le (x.lt q) e) (Nat.lt_irrefl _)
theorem HOk.kept(x:HOk P w H h)(k:∀b u,h.get? b=some u->h'.get? b=some u):HOk P w H h':=λa o e =>
 (x a o e).stay (λb u _ q=>k b u q) (λ_ q=>q) λ_ _ q=>q
theorem HOk.laid(x:HOk P w H h)(k:∀b u,h.get? b=some u->h'.get? b=some u)(hp:h.objs.size<=a)(new:ObjOk P w (upd H a o) h' a o):HOk P w (upd H a o) h':=λb u e=>by
 have hn:=x.fresh hp
 by_cases hb:b=a
 ·subst hb;rw[upd_same]at e;cases e;exact new
 ·rw[upd_ne hb]at e
  exact(x b u e).stay (λc v _ q=>k c v q) (λc q=>by rw[upd_ne (q0x q hn)];exact q) λc xs q=>by rw[upd_ne (q0x q hn)];exact q
end
def Rd(H:Hp)(a:Addr)(u:HO):Prop:=H a=some u\/∃o,H a=some (.frz o u)
theorem Rd.ok{P:Program}{w:World}{H:Hp}{h:Heap}{a:Addr}{u:HO}(r:Rd H a u)(x:HOk P w H h):ObjOk P w H h a u:=by
 rcases r with r|⟨o,r⟩
 ·exact x a u r
 ·obtain⟨_,q⟩:=x a _ r
  exact q
def Mut:Option HO->Prop
 |some (.lst _)=>True
 |some (.dK _)=>True
 |some (.dT _)=>True
 |some (.set _ _)=>True
 |some (.ins _ _ _)=>True
 |some (.ext _)=>True
 |_=>False
section
variable{P:Program}{w:World}{H:Hp}{h h':Heap}{x e:Addr}{o':HO}
theorem HOk.write(ok:HOk P w H h)(mu:Mut (H x))(he:e=x\/H e=some (.own x))(k:∀b u,b≠e->h.get? b=some u->h'.get? b=some u)(heo:∃u,h'.get? e=some u)
  (new:ObjOk P w (upd H x o') h' x o'):HOk P w (upd H x o') h':=λb u q=>by
 have nown:∀c y,H c=some (.own y)->c≠x:=λc y r z=>by subst z;rw[r]at mu;exact mu
 have ntup:∀c xs,H c=some (.tup xs)->c≠x:=λc xs r z=>by subst z;rw[r]at mu;exact mu
 by_cases hb:b=x
 ·subst hb;rw[upd_same]at q;cases q;exact new
 ·rw[upd_ne hb]at q
  by_cases hbe:b=e
  ·have q':H b=some (.own x):=by
    rcases he with z|z
    ·exact absurd (hbe.trans z) hb
    ·rw[hbe];exact z
   rw[q]at q';cases q'
   obtain⟨v,hv⟩:=heo
   exact⟨v,by rw[hbe];exact hv⟩
  ·refine(ok b u q).stay (λc v hc r=>k c v ?_ r) (λc r=>by rw[upd_ne (nown c b r)];exact r) λc xs r=>by rw[upd_ne (ntup c xs r)];exact r
   rcases hc with rfl|hc
   ·exact hbe
   ·rintro rfl
    rcases he with z|z
    ·exact nown c b hc z
    ·rw[hc]at z;cases z;exact hb rfl
end
structure Un(fs ex:List Addr)(H H':Hp)(h h':Heap):Prop where
 keep:∀b o,h.get? b=some o->H b=none->b∉fs->b∉ex->h'.get? b=some o
 slot:∀b o,h.get? b=some o->H b=none->b∈fs->b∉ex->∃sl,h'.get? b=some { o with slots:=sl }
 free:∀b o,h.get? b=some o->H b=none->b∉ex->H' b=none
 there:∀b o,h.get? b=some o->b∉ex->∃o',h'.get? b=some o'
 tups:∀b xs,H b=some (.tup xs)->H' b=some (.tup xs)
 frzs:∀b o u,H b=some (.frz o u)->H' b=some (.frz o u)
 tbls:∀b ps,H b=some (.tbl ps)->∃more,H' b=some (.tbl (ps++more))
section
variable{fs fs' ex ex':List Addr}{H H1 H2:Hp}{h h1 h2 h':Heap}{a x e:Addr}{o:HO}
theorem Un.any(u:Un fs ex H H1 h h1){b:Addr}{ob:Obj}(q:h.get? b=some ob)(n:H b=none)(hx:b∉ex):∃sl,h1.get? b=some { ob with slots:=sl }:=by
 by_cases hb:b∈fs
 ·exact u.slot b ob q n hb hx
 ·exact⟨ob.slots,u.keep b ob q n hb hx⟩
theorem Un.kept(k:∀b u,h.get? b=some u->h'.get? b=some u):Un fs ex H H h h' :=
 ⟨λb ob q _ _ _=>k b ob q,λb ob q _ _ _=>⟨ob.slots,k b ob q⟩,λ_ _ _ n _=>n,λb ob q _=>⟨ob,k b ob q⟩,λ_ _ q=>q,λ_ _ _ q=>q,λ_ ps q=>⟨#[],by rw[q];simp⟩⟩
theorem Un.refl:Un fs ex H H h h:=Un.kept λ_ _ q=>q
theorem Un.laid(k:∀b u,h.get? b=some u->h'.get? b=some u)(hp:h.objs.size<=a)(hn:H a=none):Un fs ex H (upd H a o) h h' where
 keep:=λb u q _ _ _=>k b u q
 slot:=λb u q _ _ _=>⟨u.slots,k b u q⟩
 free:=λb u q n _=>by rw[upd_ne (Nat.ne_of_lt (Nat.lt_of_lt_of_le (Heap.lt_size q) hp))];exact n
 there:=λb u q _=>⟨u,k b u q⟩
 tups:=λb xs q=>by rw[upd_ne (q0x q hn)];exact q
 frzs:=λb u xs q=>by rw[upd_ne (q0x q hn)];exact q
 tbls:=λb ps q=>⟨#[],by rw[upd_ne (q0x q hn),q];simp⟩
theorem Un.write(mu:Mut (H x))(he:e=x\/H e=some (.own x))(k:∀b u,b≠e->h.get? b=some u->h'.get? b=some u)(heo:∃u,h'.get? e=some u):Un fs ex H (upd H x o) h h':=by
 have hx:∀b,H b=none->b≠x:=λb n z=>by subst z;rw[n]at mu;exact mu
 have hb:∀b,H b=none->b≠e:=λb n z=>by
  subst z
  rcases he with r|r
  ·exact hx b n r
  ·rw[n]at r;cases r
 have hm:∀b u,H b=some u->¬Mut (some u)->b≠x:=λb u q nm z=>by subst z;rw[q]at mu;exact nm mu
 refine⟨λb u q n _ _=>k b u (hb b n) q,λb u q n _ _=>⟨u.slots,k b u (hb b n) q⟩,λb u q n _=>by rw[upd_ne (hx b n)];exact n,λb u q _=>?_,
  λb xs q=>by rw[upd_ne (hm b _ q λz=>z)];exact q,λb u xs q=>by rw[upd_ne (hm b _ q λz=>z)];exact q,λb ps q=>⟨#[],by rw[upd_ne (hm b _ q λz=>z),q];simp⟩⟩
 by_cases hbe:b=e
 ·subst hbe;exact heo
 ·exact⟨u,k b u hbe q⟩
end
def trk(h:Heap)(H:Hp):List Addr:=(List.range h.objs.size).filter λa=>(H a).isSome
def hidT(h:Heap)(H:Hp):Heap:=PySem.W.hideAll h (trk h H)
theorem hidT_size(h:Heap)(H:Hp):(hidT h H).objs.size=h.objs.size:=PySem.W.hideAll_size _ _
theorem hidT_get{h:Heap}{H:Hp}{b:Addr}{o:Obj}(e:h.get? b=some o)(n:H b=none):(hidT h H).get? b=some o :=
 PySem.W.hideAll_get _ e λhm=>by
  have q:(H b).isSome=true:=(List.mem_filter.mp hm).2
  rw[n]at q;simp at q
theorem of_hidT{h:Heap}{H:Hp}{b:Addr}{o:Obj}(e:(hidT h H).get? b=some o):h.get? b=some o/\H b=none:=by
 have e':h.get? b=some o:=PySem.W.of_hideAll (trk h H) e
 refine⟨e',?_⟩
 cases q:H b with
 |none=>rfl
 |some x =>
  have hm:b∈trk h H:=List.mem_filter.mpr ⟨List.mem_range.mpr (Heap.lt_size e'),by simp[q]⟩
  have z:(hidT h H).get? b=none:=PySem.W.hideAll_none (trk h H) hm
  rw[z]at e;cases e
end L2
namespace L2
open PySem PySem.Spec PyProof.Rows
structure Mod(K:PySem.W.Frag)(mg:Str->Option Value)(base:Heap):Prop where
 kin:K.In base
 glob:base.Ns mainGlobals mg
 blt:∃mb,base.Ns builtinsNs mb/\∀x:Str,x≠ "__name__" ->mb x=bootBuiltins x
 nolimit:base.NoLimit
structure Cx where
 prog:Program
 w:World
 K:PySem.W.Frag
 mg:Str->Option Value
 base:Heap
 A:Around
 N:List Str
 s₀:Shared
 H₀:Hp
 env:Env
 outer:List Env
 stack:List Env
 ex:List Addr
 fn:Str->Bool
 calm:Bool
 pn:List (Addr×Obj)
 xe:Value->Shared->Prop
def frs(l:List Env):List Addr:=l.filterMap (·.frame)
abbrev Cx.fs(X:Cx):List Addr:=frs X.outer
def Vis(sc:Scope)(x:Str):Prop:=sc.names.lookup x=some .local\/sc.names.lookup x=some .cell\/sc.names.lookup x=some .free
def Loc(sc:Scope)(x:Str):Prop:=sc.names.lookup x=some .local\/sc.names.lookup x=some .cell
def Look(env:Env)(h:Heap)(m:Str->Option Value)(x:Str)(u:Value):Prop :=
 (env.kindOf x=some .local/\m x=some u)\/((env.kindOf x=some .cell\/env.kindOf x=some .free)/\∃c,env.cells.lookup x=some c/\h.IsCell c (some u))
def TokB(mg:Str->Option Value)(n:Nat):Prop:=∀x v u,mg x=some (.str v u)->u<n/\u≠0
theorem TokB.mono{mg:Str->Option Value}{n m:Nat}(h:TokB mg n)(l:n<=m):TokB mg m:=λx v u e=>⟨Nat.lt_of_lt_of_le (h x v u e).1 l,(h x v u e).2⟩
structure Cx.Ok(X:Cx):Prop where
 mod:Mod X.K X.mg X.base
 kind:X.env.scope.kind= .function
 glob:X.env.globals=mainGlobals
 blt:X.env.builtins=builtinsNs
 above:X.s₀.heap.objs.size<=X.env.locals
 inj:∀x y c,X.env.cells.lookup x=some c->X.env.cells.lookup y=some c->x=y
 has:∀x,(X.env.kindOf x=some .cell\/X.env.kindOf x=some .free)->∃c,X.env.cells.lookup x=some c
 cab:∀x c,X.fn x=true->X.env.cells.lookup x=some c->X.s₀.heap.objs.size<=c
 hd:X.calm=true->X.A.handled=none
 frames:X.A.frames=some X.stack
 stk:X.stack=X.outer\/(X.stack=X.env::X.outer/\X.env.frame=some X.env.locals)
 exf:∀b∈X.ex,b≠X.env.locals/\∀x c,X.env.cells.lookup x=some c->c≠b
 bs:∀b o,X.base.get? b=some o->X.s₀.heap.get? b=some o/\X.H₀ b=none
 bsz:X.base.objs.size<=X.s₀.heap.objs.size
 noex:∀b o,X.base.get? b=some o->b∉X.ex
 exfs:∀b∈X.ex,b∉X.fs
 funs:X.s₀.heap.FunFrames X.base X.outer
 frf:∀b∈X.fs,X.H₀ b=none
 tk:TokB X.mg X.s₀.toks
structure Inv(X:Cx)(pins:List (Addr×Obj))(σ:List (Option V))(H:Hp)(s:Shared):Prop where
 ok:X.Ok
 os:s.os=X.s₀.os
 bare:AllBare s.gens
 base:Un X.fs X.ex X.H₀ H X.s₀.heap s.heap
 loc:∃m,s.heap.Ns X.env.locals m/\∀(i:Nat) (x:Str) (v:V),X.N[i]? =some x->σ[i]? =some (some v)->Vis X.env.scope x->∃u,RelV v u/\Look X.env s.heap m x u
 cell:∀x c,X.env.cells.lookup x=some c->∃v,s.heap.IsCell c v
 free:H X.env.locals=none
 freeC:∀x c,X.env.cells.lookup x=some c->H c=none
 pin:∀p∈X.pn++pins,s.heap.get? p.1=some p.2/\H p.1=none/\p.1≠X.env.locals/\p.1∉X.fs/\∀v,p.2.data≠ .cell v
 hok:HOk X.prog X.w H s.heap
 len:σ.length=X.N.length
 up:X.s₀.toks<=s.toks
section
variable{X:Cx}{pins:List (Addr×Obj)}{σ:List (Option V)}{H H':Hp}{s:Shared}{h':Heap}
theorem Cx.Ok.nofr(ok:X.Ok){b:Addr}{o:Obj}(e:X.base.get? b=some o):b∉X.fs:=λhb=>by
 have:=(ok.funs.mem hb).1
 rw[e]at this;cases this
theorem Inv.tk(I:Inv X pins σ H s):TokB X.mg s.toks:=I.ok.tk.mono I.up
theorem Inv.bs(I:Inv X pins σ H s):∀b o,X.base.get? b=some o->s.heap.get? b=some o/\H b=none:=λb o e =>
 ⟨I.base.keep b o (I.ok.bs b o e).1 (I.ok.bs b o e).2 (I.ok.nofr e) (I.ok.noex b o e),I.base.free b o (I.ok.bs b o e).1 (I.ok.bs b o e).2 (I.ok.noex b o e)⟩
theorem Inv.bk(I:Inv X pins σ H s):∀b o,X.base.get? b=some o->s.heap.get? b=some o:=λb o e=>(I.bs b o e).1
theorem Inv.mod(I:Inv X pins σ H s):Mod X.K X.mg X.base:=I.ok.mod
theorem Inv.kIn(I:Inv X pins σ H s):X.K.In s.heap:=I.ok.mod.kin.keeps I.bk
theorem Inv.lt(I:Inv X pins σ H s):X.env.locals<s.heap.objs.size:=let ⟨_,hn,_⟩:=I.loc;hn.lt
theorem Inv.sz(I:Inv X pins σ H s):X.s₀.heap.objs.size<=s.heap.objs.size:=Nat.le_trans I.ok.above (Nat.le_of_lt I.lt)
theorem Inv.nofs(I:Inv X pins σ H s){a:Addr}(h:s.heap.objs.size<=a):a∉X.fs:=λhb=>by
 obtain⟨_,o,ho,_⟩:=I.ok.funs.mem hb
 exact absurd (Nat.lt_of_lt_of_le (Heap.lt_size ho) (Nat.le_trans I.sz h)) (Nat.lt_irrefl _)
theorem Inv.cne(I:Inv X pins σ H s):∀x c,X.env.cells.lookup x=some c->c≠X.env.locals:=λx c e z=>by
 obtain⟨v,o,ho,hd⟩:=I.cell x c e
 obtain⟨m,⟨o',es,ep,ho',hd',_⟩,_⟩:=I.loc
 rw[z,ho']at ho;cases ho;rw[hd']at hd;cases hd
theorem Inv.funs(I:Inv X pins σ H s):s.heap.FunFrames X.base X.outer:=by
 have all:∀(l:List Env),(∀b∈frs l,b∈X.fs)->X.s₀.heap.FunFrames X.base l->s.heap.FunFrames X.base l:=by
  intro l
  induction l with
  |nil=>intro _ _;trivial
  |cons env r ih =>
   intro hs hl
   obtain⟨hk,⟨L,o,hf,hn,ho,hd⟩,hr⟩:=hl
   have hL:L∈X.fs:=hs L (by unfold frs;rw[List.filterMap_cons,hf];exact List.mem_cons_self)
   obtain⟨sl,e⟩:=I.base.slot L o ho (I.ok.frf L hL) hL λz=>I.ok.exfs L z hL
   exact⟨hk,⟨L,_,hf,hn,e,hd⟩,ih (λb hb=>hs b (by unfold frs;rw[List.filterMap_cons,hf];exact List.mem_cons_of_mem _ hb)) hr⟩
 exact all X.outer (λ_ hb=>hb) I.ok.funs
theorem Inv.stack(I:Inv X pins σ H s):s.heap.FunFrames X.base X.stack:=by
 rcases I.ok.stk with e|⟨e,hf⟩
 ·rw[e];exact I.funs
 ·rw[e]
  obtain⟨m,hn,_⟩:=I.loc
  refine .cons (by rw[I.ok.kind];decide) hf hn ?_ I.funs
  exact Heap.get?_none_of_le (Nat.le_trans I.ok.bsz I.ok.above)
theorem Inv.stkSub(I:Inv X pins σ H s):∀b∈frs X.stack,b∈X.env.locals::X.fs:=λb hb=>by
 rcases I.ok.stk with e|⟨e,hf⟩
 ·rw[e]at hb;exact List.mem_cons_of_mem _ hb
 ·rw[e]at hb
  unfold frs at hb
  rw[List.filterMap_cons,hf]at hb
  exact hb
theorem Inv.stkFree(I:Inv X pins σ H s):∀b∈frs X.stack,H b=none:=λb hb=>by
 rcases List.mem_cons.mp (I.stkSub b hb)with e|hb
 ·rw[e];exact I.free
 ·obtain⟨_,o,ho,_⟩:=I.ok.funs.mem hb
  exact I.base.free b o ho (I.ok.frf b hb) λz=>I.ok.exfs b z hb
theorem Inv.step{g':Array GenState}{t':Nat}{d':Drawn}{ch:List Addr}(I:Inv X pins σ H s)
  (hch:∀b∈ch,(b∈X.ex\/X.s₀.heap.objs.size<=b)/\b≠X.env.locals/\(∀x c,X.env.cells.lookup x=some c->c≠b)/\∀p∈X.pn++pins,p.1≠b)
  (keep:∀b o,b≠X.env.locals->b∉X.fs->b∉ch->s.heap.get? b=some o->H b=none->h'.get? b=some o)
  (slot:∀b o,b≠X.env.locals->b∈X.fs->b∉ch->s.heap.get? b=some o->H b=none->∃sl,h'.get? b=some { o with slots:=sl }) (free:∀b o,b∉ch->s.heap.get? b=some o->H b=none->H' b=none)
  (there:∀b o,b∉ch->s.heap.get? b=some o->∃o',h'.get? b=some o')
  (tups:∀b xs,H b=some (.tup xs)->H' b=some (.tup xs)) (frzs:∀b o u,H b=some (.frz o u)->H' b=some (.frz o u)) (tbls:∀b ps,H b=some (.tbl ps)->∃more,H' b=some (.tbl (ps++more)))
  (ns:∀m,s.heap.Ns X.env.locals m->h'.Ns X.env.locals m) (hok:HOk X.prog X.w H' h') (hg:AllBare g') (ht:X.s₀.toks<=t') :
  Inv X pins σ H' { s with heap:=h',gens:=g',drawn:=d',toks:=t' }:=by
 have neL:∀b o,X.s₀.heap.get? b=some o->b≠X.env.locals:=λb o e=>Nat.ne_of_lt (Nat.lt_of_lt_of_le (Heap.lt_size e) I.ok.above)
 have neC:∀b o,X.s₀.heap.get? b=some o->b∉X.ex->b∉ch:=λb o e hx hb=>by
  rcases(hch b hb).1 with z|z
  ·exact hx z
  ·exact absurd (Nat.lt_of_lt_of_le (Heap.lt_size e) z) (Nat.lt_irrefl _)
 have cellK:∀x c,X.env.cells.lookup x=some c->∀v,s.heap.IsCell c v->h'.IsCell c v:=λx c e v ⟨o,ho,hd⟩=>by
  have nch:c∉ch:=λz=>(hch c z).2.2.1 x c e rfl
  by_cases hc:c∈X.fs
  ·obtain⟨sl,q⟩:=slot c o (I.cne x c e) hc nch ho (I.freeC x c e)
   exact⟨_,q,hd⟩
  ·exact⟨o,keep c o (I.cne x c e) hc nch ho (I.freeC x c e),hd⟩
 refine⟨I.ok,I.os,hg,⟨λb o e n hb hx=>?_,λb o e n hb hx=>?_,λb o e n hx=>?_,λb o e hx=>?_,λb xs e=>tups b xs (I.base.tups b xs e),λb o xs e=>frzs b o xs (I.base.frzs b o xs e),λb ps e=>?_⟩,?_,λx c e=>?_,?_,λx c e=>?_,λp hp=>?_,hok,I.len,ht⟩
 ·exact keep b o (neL b o e) hb (neC b o e hx) (I.base.keep b o e n hb hx) (I.base.free b o e n hx)
 ·obtain⟨sl,e1⟩:=I.base.slot b o e n hb hx
  obtain⟨sl',e2⟩:=slot b _ (neL b o e) hb (neC b o e hx) e1 (I.base.free b o e n hx)
  exact⟨sl',e2⟩
 ·obtain⟨o',e1⟩:=I.base.there b o e hx
  exact free b o' (neC b o e hx) e1 (I.base.free b o e n hx)
 ·obtain⟨o',e1⟩:=I.base.there b o e hx
  exact there b o' (neC b o e hx) e1
 ·obtain⟨m1,e1⟩:=I.base.tbls b ps e
  obtain⟨m2,e2⟩:=tbls b _ e1
  exact⟨m1++m2,by rw[e2,Array.append_assoc]⟩
 ·obtain⟨m,hn,hl⟩:=I.loc
  refine⟨m,ns m hn,λi x v e1 e2 e3=>?_⟩
  obtain⟨u,r,l⟩:=hl i x v e1 e2 e3
  refine⟨u,r,?_⟩
  rcases l with l|⟨k,c,e,z⟩
  ·exact .inl l
  ·exact .inr ⟨k,c,e,cellK x c e _ z⟩
 ·obtain⟨v,z⟩:=I.cell x c e
  exact⟨v,cellK x c e v z⟩
 ·obtain⟨m,⟨o,_,_,ho,_⟩,_⟩:=I.loc
  exact free _ o (λz=>(hch _ z).2.1 rfl) ho I.free
 ·obtain⟨v,o,ho,hd⟩:=I.cell x c e
  exact free c o (λz=>(hch c z).2.2.1 x c e rfl) ho (I.freeC x c e)
 ·obtain⟨e,n,ne,nf,d⟩:=I.pin p hp
  have nch:p.1∉ch:=λz=>(hch p.1 z).2.2.2 p hp rfl
  exact⟨keep p.1 p.2 ne nf nch e n,free p.1 p.2 nch e n,ne,nf,d⟩
theorem Inv.un{t':Nat}(I:Inv X pins σ H s)(u:Un X.fs [] H H' s.heap h')(hok:HOk X.prog X.w H' h')(ht:s.toks<=t':=by first|exact Nat.le_refl _|exact Nat.le_succ _|assumption|omega):Inv X pins σ H' { s with heap:=h',toks:=t' }:=by
 obtain⟨m,⟨o,es,ep,ho,r⟩,_⟩:=id I.loc
 obtain⟨sl,hL⟩:=u.any ho I.free (by simp)
 exact I.step (g':=s.gens) (d':=s.drawn) (ch:=[]) (λ_ z=>nomatch z) (λb o _ hb _ e n=>u.keep b o e n hb (by simp)) (λb o _ hb _ e n=>u.slot b o e n hb (by simp)) (λb o _ e n=>u.free b o e n (by simp)) (λb o _ e=>u.there b o e (by simp)) u.tups u.frzs u.tbls (λm' hm=>by
  obtain⟨o',es',ep',ho',r'⟩:=hm
  rw[ho]at ho';cases ho'
  exact⟨_,es',ep',hL,r'⟩) hok I.bare (Nat.le_trans I.up ht)
theorem Inv.call{g':Array GenState}{t':Nat}{d':Drawn}{ch:List Addr}(I:Inv X pins σ H s)(u:Un (frs X.stack) ch H H' s.heap h')(hok:HOk X.prog X.w H' h')(hg:AllBare g')
  (hch:∀b∈ch,(b∈X.ex\/X.s₀.heap.objs.size<=b)/\b≠X.env.locals/\(∀x c,X.env.cells.lookup x=some c->c≠b)/\∀p∈X.pn++pins,p.1≠b) (ht:X.s₀.toks<=t') :
  Inv X pins σ H' { s with heap:=h',gens:=g',drawn:=d',toks:=t' }:=by
 obtain⟨m,⟨o,es,ep,ho,r⟩,_⟩:=id I.loc
 obtain⟨sl,hL⟩:=u.any ho I.free λz=>(hch _ z).2.1 rfl
 exact I.step (ch:=ch) hch (λb o hL hb hc e n=>u.keep b o e n (λz=>(List.mem_cons.mp (I.stkSub b z)).elim hL hb) hc) (λb o _ _ hc e n=>u.any e n hc) (λb o hc e n=>u.free b o e n hc) (λb o hc e=>u.there b o e hc) u.tups u.frzs u.tbls (λm' hm=>by
  obtain⟨o',es',ep',ho',r'⟩:=hm
  rw[ho]at ho';cases ho'
  exact⟨_,es',ep',hL,r'⟩) hok hg ht
theorem Inv.turned{t':Nat}{it:Addr}(I:Inv X pins σ H s)(k:∀b o,b≠it->s.heap.get? b=some o->h'.get? b=some o)(hn:H it=none)(hL:it≠X.env.locals)
  (h1:it∈X.ex\/X.s₀.heap.objs.size<=it) (h2:∀x c,X.env.cells.lookup x=some c->c≠it) (h3:∀p∈X.pn++pins,p.1≠it) (ht:s.toks<=t':=by first|exact Nat.le_refl _|exact Nat.le_succ _|assumption|omega):Inv X pins σ H { s with heap:=h',toks:=t' }:=by
 have nit:∀b u,H b=some u->b≠it:=λb u e z=>by rw[z,hn]at e;cases e
 refine I.step (g':=s.gens) (d':=s.drawn) (ch:=[it]) (λb hb=>?_) (λb o _ _ hc e _=>k b o (λz=>hc (by simp[z])) e) (λb o _ _ hc e _=>⟨o.slots,k b o (λz=>hc (by simp[z])) e⟩) (λ_ _ _ _ n=>n)
  (λb o hc e=>⟨o,k b o (λz=>hc (by simp[z])) e⟩) (λ_ _ e=>e) (λ_ _ _ e=>e) (λb ps e=>⟨#[],by rw[e];simp⟩) (λm hm=>?_) (λb u e=>?_) I.bare (Nat.le_trans I.up ht)
 ·have e:b=it:=by simpa using hb
  subst e
  exact⟨h1,hL,h2,h3⟩
 ·obtain⟨o,es,ep,ho,r⟩:=hm
  exact⟨o,es,ep,k _ o (Ne.symm hL) ho,r⟩
 ·refine(I.hok b u e).stay (λc v hc q=>k c v ?_ q) (λ_ q=>q) λ_ _ q=>q
  rcases hc with z|z
  ·rw[z];exact nit b u e
  ·exact nit c _ z
theorem Inv.tok(I:Inv X pins σ H s)(t':Nat)(ht:s.toks<=t':=by first|exact Nat.le_refl _|exact Nat.le_succ _|assumption|omega):Inv X pins σ H { s with toks:=t' }:=I.un (h':=s.heap) (t':=t') Un.refl I.hok ht
theorem Inv.kept{t':Nat}(I:Inv X pins σ H s)(k:∀b u,s.heap.get? b=some u->h'.get? b=some u)(ht:s.toks<=t':=by first|exact Nat.le_refl _|exact Nat.le_succ _|assumption|omega):Inv X pins σ H { s with heap:=h',toks:=t' }:=I.un (Un.kept k) (I.hok.kept k) ht
theorem Inv.laid{a:Addr}{o:HO}{t':Nat}(I:Inv X pins σ H s)(k:∀b u,s.heap.get? b=some u->h'.get? b=some u)(hp:s.heap.objs.size<=a)(new:ObjOk X.prog X.w (upd H a o) h' a o)(ht:s.toks<=t':=by first|exact Nat.le_refl _|exact Nat.le_succ _|assumption|omega):
  Inv X pins σ (upd H a o) { s with heap:=h',toks:=t' }:=I.un (Un.laid k hp (I.hok.fresh hp)) (I.hok.laid k hp new) ht
theorem Inv.write{x e:Addr}{o:HO}{t':Nat}(I:Inv X pins σ H s)(mu:Mut (H x))(he:e=x\/H e=some (.own x))(k:∀b u,b≠e->s.heap.get? b=some u->h'.get? b=some u)(heo:∃u,h'.get? e=some u)
  (new:ObjOk X.prog X.w (upd H x o) h' x o) (ht:s.toks<=t':=by first|exact Nat.le_refl _|exact Nat.le_succ _|assumption|omega):Inv X pins σ (upd H x o) { s with heap:=h',toks:=t' }:=I.un (Un.write mu he k heo) (I.hok.write mu he k heo new) ht
theorem Inv.weak{σ':List (Option V)}(I:Inv X pins σ H s)(hl:σ'.length=σ.length)(w:∀(i:Nat) v,σ'[i]? =some (some v)->σ[i]? =some (some v)):Inv X pins σ' H s :=
 ⟨I.ok,I.os,I.bare,I.base,let ⟨m,hn,hl'⟩:=I.loc;⟨m,hn,λi x v e1 e2 e3=>hl' i x v e1 (w i v e2) e3⟩,I.cell,I.free,I.freeC,I.pin,I.hok,hl.trans I.len,I.up⟩
theorem Inv.pins_of{pins':List (Addr×Obj)}(I:Inv X pins σ H s)(h:∀p∈pins',s.heap.get? p.1=some p.2/\H p.1=none/\p.1≠X.env.locals/\p.1∉X.fs/\∀v,p.2.data≠ .cell v):Inv X pins' σ H s :=
 ⟨I.ok,I.os,I.bare,I.base,I.loc,I.cell,I.free,I.freeC,λp hp=>(List.mem_append.mp hp).elim (λz=>I.pin p (List.mem_append_left _ z)) (h p),I.hok,I.len,I.up⟩
theorem z5u{N:List Str}(hN:N.Nodup){i j:Nat}{x:Str}(a:N[i]? =some x)(b:N[j]? =some x):i=j:=by
 obtain⟨h1,e1⟩:=List.getElem?_eq_some_iff.mp a
 obtain⟨h2,e2⟩:=List.getElem?_eq_some_iff.mp b
 exact(List.getElem_inj hN).mp (e1.trans e2.symm)
theorem store_ok2{M:Model}{A:Around}{E:Value->Shared->Prop}{i:Nat}{x:Str}{v:V}{u:Value}{Q:Unit->Shared->Prop}(I:Inv X pins σ H s)(hN:X.N.Nodup)(hi:X.N[i]? =some x)(hx:Loc X.env.scope x)(r:RelV v u)
  (h:∀s',Inv X pins (σ.set i (some v)) H s'->(∃a,Heap.SameBut a s.heap s'.heap/\(a=X.env.locals\/X.env.cells.lookup x=some a))->Q () s') (hf:X.fn x=true\/X.env.scope.names.lookup x=some .local:=by first|exact .inl rfl|exact .inr rfl|assumption):wpAny M A (storeName X.env x u) Q E s:=by
 obtain⟨m,hn,hl⟩:=id I.loc
 have hcls:(X.env.scope.kind== .class||(X.env.scope.kind== .module&&X.env.locals != X.env.globals))=false:=by rw[I.ok.kind];rfl
 have hiσ:i<σ.length:=by rw[I.len];exact(List.getElem?_eq_some_iff.mp hi).1
 have cne:=I.cne
 have tracked:∀{a:Addr} {h':Heap},(∃o,s.heap.get? a=some o/\H a=none)->Heap.SameBut a s.heap h'->HOk X.prog X.w H h':=λ{a h'} ha hs b ob e=>by
  obtain⟨_,_,hfree⟩:=ha
  refine(I.hok b ob e).stay (λc w' hc q=>(hs.2 c ?_).trans q) (λ_ q=>q) λ_ _ q=>q
  rintro rfl
  rcases hc with rfl|hc
  ·rw[hfree]at e;cases e
  ·rw[hfree]at hc;cases hc
 rcases hx with hk|hk
 ·refine wpAny_storeName_local hk hn (λh' hn' hs=>?_) hcls
  obtain⟨oL,_,_,hoL,_⟩:=id hn
  refine h _ ⟨I.ok,I.os,I.bare,⟨λb o e n hb hx=>?_,λb o e n hb hx=>?_,I.base.free,λb o e hx=>?_,I.base.tups,I.base.frzs,I.base.tbls⟩,⟨_,hn',λj y v' e1 e2 e3=>?_⟩,λy c e=>?_,I.free,I.freeC,λp hp=>?_,tracked ⟨oL,hoL,I.free⟩ hs,by simpa using I.len,Nat.le_trans I.up (by first|exact Nat.le_refl _|exact Nat.le_succ _|exact Nat.le_add_right _ _)⟩ ⟨_,hs,.inl rfl⟩
  ·exact(hs.2 b (Nat.ne_of_lt (Nat.lt_of_lt_of_le (Heap.lt_size e) I.ok.above))).trans (I.base.keep b o e n hb hx)
  ·obtain⟨sl,e1⟩:=I.base.slot b o e n hb hx
   exact⟨sl,(hs.2 b (Nat.ne_of_lt (Nat.lt_of_lt_of_le (Heap.lt_size e) I.ok.above))).trans e1⟩
  ·obtain⟨o',e1⟩:=I.base.there b o e hx
   exact⟨o',(hs.2 b (Nat.ne_of_lt (Nat.lt_of_lt_of_le (Heap.lt_size e) I.ok.above))).trans e1⟩
  ·by_cases hj:j=i
   ·subst hj
    rw[hi]at e1;cases e1
    rw[List.getElem?_set_self hiσ]at e2
    cases e2
    exact⟨u,r,.inl ⟨hk,by simp⟩⟩
   ·rw[List.getElem?_set_ne (Ne.symm hj)]at e2
    obtain⟨u',r',q⟩:=hl j y v' e1 e2 e3
    refine⟨u',r',?_⟩
    rcases q with⟨k,e⟩|⟨k,c,e,z⟩
    ·refine .inl ⟨k,?_⟩
     have:y≠x:=λe=>hj (z5u hN e1 (e▸hi))
     simp[this,e]
    ·exact .inr ⟨k,c,e,z.sameBut hs (cne y c e)⟩
  ·obtain⟨w',z⟩:=I.cell y c e
   exact⟨w',z.sameBut hs (cne y c e)⟩
  ·obtain⟨e,n,ne,nf,d⟩:=I.pin p hp
   exact⟨(hs.2 p.1 ne).trans e,n,ne,nf,d⟩
 ·have hfn:X.fn x=true:=by
   rcases hf with z|z
   ·exact z
   ·rw[z]at hk;cases hk
  obtain⟨c,hc⟩:=I.ok.has x (.inl hk)
  obtain⟨w',z⟩:=I.cell x c hc
  refine wpAny_storeName_cell I.ok.kind hk hc z (λh' hc' hs=>?_)
  obtain⟨oc,hoc,hocd⟩:=id z
  refine h { s with heap:=h' } ⟨I.ok,I.os,I.bare,⟨λb o e n hb hx=>?_,λb o e n hb hx=>?_,I.base.free,λb o e hx=>?_,I.base.tups,I.base.frzs,I.base.tbls⟩,⟨m,hn.sameBut hs (Ne.symm (cne x c hc)),λj y v' e1 e2 e3=>?_⟩,λy c' e=>?_,I.free,I.freeC,λp hp=>?_,tracked ⟨oc,hoc,I.freeC x c hc⟩ hs,by simpa using I.len,I.up⟩ ⟨c,hs,.inr hc⟩
  ·exact(hs.2 b (Nat.ne_of_lt (Nat.lt_of_lt_of_le (Heap.lt_size e) (I.ok.cab x c hfn hc)))).trans (I.base.keep b o e n hb hx)
  ·obtain⟨sl,e1⟩:=I.base.slot b o e n hb hx
   exact⟨sl,(hs.2 b (Nat.ne_of_lt (Nat.lt_of_lt_of_le (Heap.lt_size e) (I.ok.cab x c hfn hc)))).trans e1⟩
  ·obtain⟨o',e1⟩:=I.base.there b o e hx
   exact⟨o',(hs.2 b (Nat.ne_of_lt (Nat.lt_of_lt_of_le (Heap.lt_size e) (I.ok.cab x c hfn hc)))).trans e1⟩
  ·by_cases hj:j=i
   ·subst hj
    rw[hi]at e1;cases e1
    rw[List.getElem?_set_self hiσ]at e2
    cases e2
    exact⟨u,r,.inr ⟨.inl hk,c,hc,hc'⟩⟩
   ·rw[List.getElem?_set_ne (Ne.symm hj)]at e2
    obtain⟨u',r',q⟩:=hl j y v' e1 e2 e3
    refine⟨u',r',?_⟩
    rcases q with q|⟨k,c',e,z'⟩
    ·exact .inl q
    ·refine .inr ⟨k,c',e,z'.sameBut hs ?_⟩
     rintro rfl
     exact hj (z5u hN e1 (I.ok.inj _ _ _ e hc▸hi))
  ·by_cases hcc:c'=c
   ·subst hcc;exact⟨_,hc'⟩
   ·obtain⟨w2,z2⟩:=I.cell y c' e
    exact⟨w2,z2.sameBut hs hcc⟩
  ·obtain⟨e,n,ne,nf,d⟩:=I.pin p hp
   refine⟨(hs.2 p.1 ?_).trans e,n,ne,nf,d⟩
   intro q
   rw[q,hoc]at e
   have q':oc=p.2:=Option.some.inj e
   exact d w' (by rw[←q'];exact hocd)
theorem z4p{M:Model}{A:Around}{E:Value->Shared->Prop}{i:Nat}{x:Str}{v:V}{u:Value}{Q:Unit->Shared->Prop}(I:Inv X pins σ H s)(hN:X.N.Nodup)(hi:X.N[i]? =some x)(hx:Loc X.env.scope x)(r:RelV v u)
  (h:∀s',Inv X pins (σ.set i (some v)) H s'->Q () s') (hf:X.fn x=true\/X.env.scope.names.lookup x=some .local:=by first|exact .inl rfl|exact .inr rfl|assumption):wpAny M A (storeName X.env x u) Q E s :=
 store_ok2 I hN hi hx r (λs' I' _=>h s' I') hf
theorem Inv.call'{s':Shared}{ch:List Addr}(I:Inv X pins σ H s)(ho:s'.os=s.os)(u:Un (frs X.stack) ch H H' s.heap s'.heap)(hok:HOk X.prog X.w H' s'.heap)(hg:AllBare s'.gens)
  (hch:∀b∈ch,(b∈X.ex\/X.s₀.heap.objs.size<=b)/\b≠X.env.locals/\(∀x c,X.env.cells.lookup x=some c->c≠b)/\∀p∈X.pn++pins,p.1≠b) (ht:X.s₀.toks<=s'.toks):Inv X pins σ H' s':=by
 obtain⟨h',g',d',t',o'⟩:=s'
 have e:o'=s.os:=ho
 subst e
 exact I.call (g':=g') (t':=t') (d':=d') u hok hg hch ht
end
abbrev XK:=Value->Option Addr->Hp->Prop
abbrev St:=List (Option V)
abbrev VK:=V->Hp->Prop
abbrev TE:=St->Hp->VK->Prop
abbrev TT:=St->Hp->(Bool->Hp->Prop)->Prop
abbrev TA:=St->Hp->(List V->Hp->Prop)->Prop
structure Ends where
 nx:St->Hp->Prop
 rt:VK
 bk:St->Hp->Prop:=λ_ _=>False
 ct:St->Hp->Prop:=λ_ _=>False
abbrev TS:=Ends->St->Hp->Prop
def EP(X:Cx)(pins:List (Addr×Obj))(σ:St)(Q:VK)(u:Value)(s':Shared):Prop:=∃v H',Inv X pins σ H' s'/\RelV v u/\Q v H'
def TP(X:Cx)(pins:List (Addr×Obj))(σ:St)(Q:Bool->Hp->Prop)(b:Bool)(s':Shared):Prop:=∃H',Inv X pins σ H' s'/\Q b H'
def AP(X:Cx)(pins:List (Addr×Obj))(σ:St)(Q:List V->Hp->Prop)(us:List Value)(s':Shared):Prop:=∃vs H',Inv X pins σ H' s'/\Vals vs us/\Q vs H'
def SP(X:Cx)(pins:List (Addr×Obj))(D:Ends)(f:Flow)(s':Shared):Prop :=
 match f with
 | .next=>∃ σ' H',Inv X pins σ' H' s'/\D.nx σ' H'
 | .brk=>∃ σ' H',Inv X pins σ' H' s'/\D.bk σ' H'
 | .cont=>∃ σ' H',Inv X pins σ' H' s'/\D.ct σ' H'
 | .ret u=>∃v σ' H',Inv X pins σ' H' s'/\RelV v u/\D.rt v H'
def PE(X:Cx)(e:Expr)(t:TE):Prop :=
 ∀(pins:List (Addr×Obj)) (s:Shared) (σ:St) (H:Hp) (Q:VK),Inv X pins σ H s->t σ H Q->wpAny (model X.prog X.w) X.A (eval e X.env) (EP X pins σ Q) X.xe s
def PT(X:Cx)(e:Expr)(t:TT):Prop :=
 ∀(pins:List (Addr×Obj)) (s:Shared) (σ:St) (H:Hp) (Q:Bool->Hp->Prop),Inv X pins σ H s->t σ H Q->wpAny (model X.prog X.w) X.A (isTrue e X.env (eval e X.env)) (TP X pins σ Q) X.xe s
def PW(X:Cx)(e:Expr)(t:TT):Prop :=
 ∀(whole:Sem Value) (pins:List (Addr×Obj)) (s:Shared) (σ:St) (H:Hp) (Q:Bool->Hp->Prop),Inv X pins σ H s->t σ H Q->wpAny (model X.prog X.w) X.A (isTrue e X.env whole) (TP X pins σ Q) X.xe s
theorem PW.pt{X:Cx}{e:Expr}{t:TT}(h:PW X e t):PT X e t:=h _
def PA(X:Cx)(es:List Expr)(t:TA):Prop :=
 ∀(pos:Pos) (pins:List (Addr×Obj)) (s:Shared) (σ:St) (H:Hp) (Q:List V->Hp->Prop),Inv X pins σ H s->t σ H Q->wpAny (model X.prog X.w) X.A (spliced (backTo pos (starEach es X.env))) (AP X pins σ Q) X.xe s
def PS(X:Cx)(st:Stmt)(t:TS):Prop :=
 ∀(pins:List (Addr×Obj)) (s:Shared) (σ:St) (H:Hp) (D:Ends),Inv X pins σ H s->t D σ H->wpAny (model X.prog X.w) X.A (exec st X.env) (SP X pins D) X.xe s
def PSs(X:Cx)(st:List Stmt)(t:TS):Prop :=
 ∀(pins:List (Addr×Obj)) (s:Shared) (σ:St) (H:Hp) (D:Ends),Inv X pins σ H s->t D σ H->wpAny (model X.prog X.w) X.A (execs st X.env) (SP X pins D) X.xe s
theorem thn{α:Type}{t:Sem α}{Q Q':α->Shared->Prop}{M:Model}{A:Around}{E:Value->Shared->Prop}{s:Shared}(h:wpAny M A t Q E s)(hQ:∀a s,Q a s->Q' a s):wpAny M A t Q' E s:=wpAny_mono h hQ λ_ _ x=>x
end L2
namespace L2
open PySem PySem.Spec PyProof.Rows
section
variable{X:Cx}
def tVar(i:Nat):TE:=λσ H Q=>∃v,σ[i]? =some (some v)/\Q v H
def tC(v:V):TE:=λ_ H Q=>Q v H
theorem pe_var {i:Nat} {x:Str} {pos:Pos} (hN:X.N[i]? =some x) (hv:Vis X.env.scope x) (hd:(x==("__debug__" :Str))=false:=by decide) (hcd:(x==("__classdict__" :Str))=false:=by decide):PE X (.Name x pos) (tVar i):=by
 intro pins s σ H Q I h
 obtain⟨v,e,h⟩:=h
 obtain⟨m,hn,hl⟩:=I.loc
 obtain⟨u,r,l⟩:=hl i x v hN e hv
 have fin:EP X pins σ Q u s:=⟨v,H,I,r,h⟩
 rcases l with⟨hk,hm⟩|⟨hk,c,hc,hcell⟩
 ·exact wpAny_Name (wpAny_loadName_local I.ok.kind hk hn hm fin) hd
 ·rcases hk with hk|hk
  ·exact wpAny_Name (wpAny_loadName_cell I.ok.kind hk hc hcell fin) hd
  ·exact wpAny_Name (wpAny_loadName_free I.ok.kind hk hc hcell fin hcd) hd
theorem q0e{i j pos}:PE X (.Constant (.int i) j pos) (tC (.int i)):=λ_ _ _ H _ I h=>wpAny_Constant_int ⟨.int i,H,I.tok _,⟨_,rfl⟩,h⟩
theorem z0j{b j pos}:PE X (.Constant (.bool b) j pos) (tC (.bl b)):=λ_ _ _ H _ I h=>Constant_bool ⟨.bl b,H,I,rfl,h⟩
theorem pe_non{j pos}:PE X (.Constant .none j pos) (tC .non):=λ_ _ _ H _ I h=>Constant_none ⟨.non,H,I,rfl,h⟩
theorem q2t{x j pos}:PE X (.Constant (.str x) j pos) (tC (.str x)):=λ_ _ _ H _ I h=>Calls.Constant_str ⟨.str x,H,I.tok _,⟨_,rfl⟩,h⟩
def Gl(X:Cx)(x:Str):Prop:=X.env.kindOf x=some .globalImplicit
theorem q7f{E:Value->Shared->Prop}{pins:List (Addr×Obj)}{s:Shared}{σ:St}{H:Hp}{x:Str}{u:Value}{pos:Pos}{Q:Value->Shared->Prop}(I:Inv X pins σ H s)(hg:Gl X x)(hm:X.mg x=some u)(h:Q u s)
  (hd:(x==("__debug__" :Str))=false:=by decide):wpAny (model X.prog X.w) X.A (eval (.Name x pos) X.env) Q E s :=
 Calls.Name_function_global I.ok.kind hg (Calls.loadGlobal_global (by rw[I.ok.glob];exact I.mod.glob.keeps I.bk) hm h) hd
theorem q9w{E:Value->Shared->Prop}{pins:List (Addr×Obj)}{s:Shared}{σ:St}{H:Hp}{x:Str}{u:Value}{pos:Pos}{Q:Value->Shared->Prop}(I:Inv X pins σ H s)(hg:Gl X x)(hm:X.mg x=none)(hv:bootBuiltins x=some u)(h:Q u s)
  (hn:x≠ "__name__" :=by decide) (hd:(x==("__debug__" :Str))=false:=by decide):wpAny (model X.prog X.w) X.A (eval (.Name x pos) X.env) Q E s:=by
 obtain⟨mb,h1,h2⟩:=I.mod.blt
 exact Calls.Name_function_global I.ok.kind hg (Calls.loadGlobal_builtin (by rw[I.ok.glob];exact I.mod.glob.keeps I.bk) hm (by rw[I.ok.blt];exact h1.keeps I.bk) ((h2 x hn).trans hv) h) hd
theorem q3y {x:Str} {v:V} {u:Value} {pos:Pos} (hg:Gl X x) (hm:X.mg x=some u) (r:RelV v u) (hd:(x==("__debug__" :Str))=false:=by decide):PE X (.Name x pos) (tC v) :=
 λ_ _ _ H _ I h=>q7f I hg hm ⟨v,H,I,r,h⟩ hd
theorem z5f {x:Str} {v:V} {u:Value} {pos:Pos} (hg:Gl X x) (hm:X.mg x=none) (hv:bootBuiltins x=some u) (r:RelV v u) (hn:x≠ "__name__" :=by decide) (hd:(x==("__debug__" :Str))=false:=by decide):PE X (.Name x pos) (tC v) :=
 λ_ _ _ H _ I h=>q9w I hg hm hv ⟨v,H,I,r,h⟩ hn hd
variable{a b:Expr}{ta tb:TE}{pos:Pos}
def tB(t:TE):TT:=λσ H Q=>t σ H λx H1=>∃c,x= .bl c/\Q c H1
theorem q8q{e:Expr}{t:TE}(h:PE X e t)(he:∀whole,isTrue e X.env whole=(do let v ←whole;standAt e.pos;holding [v] (truthy v)):=by intro _;rfl):PT X e (tB t):=by
 intro pins s σ H Q I hw
 refine isTrue_plain (thn (h pins s σ H _ I hw) λv s1 ⟨x,H1,I1,r1,q1⟩=>?_) (he _)
 obtain⟨d,rfl,q⟩:=q1
 cases r1
 exact wpAny_truthy_bool ⟨H1,I1,q⟩
variable{tA tB':TT}{rest:List Expr}
def tAnd(t u:TT):TT:=λσ H Q=>t σ H λc H1=>if c=true then u σ H1 Q else Q false H1
def tOr(t u:TT):TT:=λσ H Q=>t σ H λc H1=>if c=true then Q true H1 else u σ H1 Q
def tNot(t:TT):TT:=λσ H Q=>t σ H λc H1=>Q (!c) H1
theorem z5b(ha:PT X a tA):PW X (.BoolOp .And [a] pos) tA:=by
 intro wh pins s σ H Q I h
 refine isTrue_and (thn (ha pins s σ H Q I h) λc s1 e=>?_)
 cases c with
 |true=>exact isTrue_and_nil e
 |false=>exact e
theorem pw_or1(ha:PT X a tA):PW X (.BoolOp .Or [a] pos) tA:=by
 intro wh pins s σ H Q I h
 refine isTrue_or (thn (ha pins s σ H Q I h) λc s1 e=>?_)
 cases c with
 |false=>exact isTrue_or_nil e
 |true=>exact e
theorem pw_and(ha:PT X a tA)(hb:PW X (.BoolOp .And (b::rest) pos) tB'):PW X (.BoolOp .And (a::b::rest) pos) (tAnd tA tB'):=by
 intro wh pins s σ H Q I h
 refine isTrue_and (thn (ha pins s σ H _ I h) λc s1 ⟨H1,I1,q1⟩=>?_)
 cases c with
 |true=>exact hb wh pins s1 σ H1 Q I1 q1
 |false=>exact⟨H1,I1,q1⟩
theorem pw_or(ha:PT X a tA)(hb:PW X (.BoolOp .Or (b::rest) pos) tB'):PW X (.BoolOp .Or (a::b::rest) pos) (tOr tA tB'):=by
 intro wh pins s σ H Q I h
 refine isTrue_or (thn (ha pins s σ H _ I h) λc s1 ⟨H1,I1,q1⟩=>?_)
 cases c with
 |true=>exact⟨H1,I1,q1⟩
 |false=>exact hb wh pins s1 σ H1 Q I1 q1
theorem z0y(ha:PT X a tA):PT X (.UnaryOp .Not a pos) (tNot tA):=by
 intro pins s σ H Q I h
 exact isTrue_not (ha pins s σ H (λc H1=>Q (!c) H1) I h)
def tAndV(ta tb:TE):TE:=λσ H Q=>ta σ H λx H1=>∃c,x= .bl c/\if c=true then tb σ H1 Q else Q (.bl false) H1
def tNotV(ta:TE):TE:=λσ H Q=>ta σ H λx H1=>∃c,x= .bl c/\Q (.bl (!c)) H1
theorem pe_one{op}{t:TE}(h:PE X a t):PE X (.BoolOp op [a] pos) t:=λpins s σ H Q I hw=>BoolOp_one (h pins s σ H Q I hw)
theorem pe_and(ha:PE X a ta)(hb:PE X (.BoolOp .And (b::rest) pos) tb):PE X (.BoolOp .And (a::b::rest) pos) (tAndV ta tb):=by
 intro pins s σ H Q I h
 refine BoolOp_and (thn (ha pins s σ H _ I h) λv s1 ⟨x,H1,I1,r1,q1⟩=>?_)
 obtain⟨c,rfl,q1⟩:=q1
 cases r1
 refine wpAny_truthy_bool ?_
 cases c with
 |true=>exact hb pins s1 σ H1 Q I1 q1
 |false=>exact⟨.bl false,H1,I1,rfl,q1⟩
theorem pe_not(ha:PE X a ta):PE X (.UnaryOp .Not a pos) (tNotV ta):=by
 intro pins s σ H Q I h
 refine UnaryOp_ (thn (ha pins s σ H _ I h) λv s1 ⟨x,H1,I1,r1,q1⟩=>?_)
 obtain⟨c,rfl,q1⟩:=q1
 cases r1
 exact not_of (wpAny_truthy_bool ⟨.bl (!c),H1,I1,rfl,q1⟩)
def tIf(t:TT)(ta tb:TE):TE:=λσ H Q=>t σ H λc H1=>if c=true then ta σ H1 Q else tb σ H1 Q
theorem z5d{c:Expr}(hc:PT X c tA)(ha:PE X a ta)(hb:PE X b tb):PE X (.IfExp c a b pos) (tIf tA ta tb):=by
 intro pins s σ H Q I h
 refine wpAny_IfExp (thn (hc pins s σ H _ I h) λd s1 ⟨H1,I1,q1⟩=>?_)
 cases d with
 |true=>exact ha pins s1 σ H1 Q I1 q1
 |false=>exact hb pins s1 σ H1 Q I1 q1
end
end L2
namespace L2
open PySem PySem.Spec PyProof.Rows
def SqL(K:PySem.W.Frag)(H:Hp)(a:Addr)(xs:List V):Prop :=
 Rd H a (.lst xs) ∨
  ∃(o:Obj) (its:Array Value) (n:Nat),K.lookup a=some o/\o.cls= .type "list" /\o.dict=none/\o.data= .seq its n/\its.size<=sizeLine/\Vals xs its.toList
def SqT(K:PySem.W.Frag)(H:Hp)(a:Addr)(xs:List V):Prop :=
 Rd H a (.tup xs) ∨
  ∃(o:Obj) (its:Array Value) (n:Nat),K.lookup a=some o/\o.cls= .type "tuple" /\o.data= .seq its n/\its.size<=sizeLine/\Vals xs its.toList
def absV:Value->Option V
 | .none=>some .non
 | .bool b=>some (.bl b)
 | .int i _=>some (.int i)
 | .str x _=>some (.str x)
 | .bytes b _=>some (.byt b)
 | .float b _=>some (.flt b)
 | .ref a=>some (.ref a)
 | .type n=>some (.ty n)
 |_=>none
theorem RelV.abs{x:V}{u:Value}(r:RelV x u):absV u=some x:=by
 cases x with
 |non=>cases r;rfl
 |bl _=>cases r;rfl
 |int _=>obtain⟨t,rfl⟩:=r;rfl
 |str _=>obtain⟨t,rfl⟩:=r;rfl
 |byt _=>obtain⟨t,rfl⟩:=r;rfl
 |flt _=>obtain⟨t,rfl⟩:=r;rfl
 |ref _=>cases r;rfl
 |ty _=>cases r;rfl
theorem RelV.inj{x y:V}{u:Value}(r:RelV x u)(q:RelV y u):x=y:=Option.some.inj (r.abs.symm.trans q.abs)
theorem Vals.inj:∀{xs ys:List V} {us:List Value},Vals xs us->Vals ys us->xs=ys
 |_,_,_,.nil,.nil=>rfl
 |_,_,_,.cons r t,.cons r' t'=>by rw[r.inj r',Vals.inj t t']
section
variable{X:Cx}{pins:List (Addr×Obj)}{σ:St}{H:Hp}{s:Shared}{a:Addr}{xs ys:List V}
theorem SqL.of{K:PySem.W.Frag}(h:H a=some (.lst xs)):SqL K H a xs:=.inl (.inl h)
theorem SqT.of{K:PySem.W.Frag}(h:H a=some (.tup xs)):SqT K H a xs:=.inl (.inl h)
theorem Inv.list(I:Inv X pins σ H s)(h:SqL X.K H a xs):∃its:List Value,Vals xs its/\PlainL s.heap a its.toArray/\xs.length<=sizeLine:=by
 rcases h with h|⟨o,its,n,hk,hc,hd,hs,hz,r⟩
 ·obtain⟨z,its,n,r,e⟩:=h.ok I.hok
  exact⟨its,r,⟨_,n,e,rfl,rfl,rfl⟩,z⟩
 ·refine⟨its.toList,r,⟨o,n,I.kIn a o hk,hc,hd,by simpa using hs⟩,?_⟩
  have e:=r.length
  simp only[Array.length_toList]at e
  omega
theorem Inv.tuple(I:Inv X pins σ H s)(h:SqT X.K H a xs):∃its:List Value,Vals xs its/\IsTup s.heap a its.toArray/\xs.length<=sizeLine:=by
 rcases h with h|⟨o,its,n,hk,hc,hs,hz,r⟩
 ·obtain⟨z,its,r,p⟩:=h.ok I.hok
  exact⟨its,r,p,z⟩
 ·refine⟨its.toList,r,⟨o,I.kIn a o hk,hc,n,by simpa using hs⟩,?_⟩
  have e:=r.length
  simp only[Array.length_toList]at e
  omega
theorem Inv.list_inj(I:Inv X pins σ H s)(h:SqL X.K H a xs)(h':SqL X.K H a ys):xs=ys:=by
 obtain⟨its,r,⟨o,n,e,_,_,d⟩,_⟩:=I.list h
 obtain⟨its',r',⟨o',n',e',_,_,d'⟩,_⟩:=I.list h'
 rw[e]at e';cases e'
 rw[d]at d'
 injection d' with d1 _
 have:its=its':=by simpa using congrArg Array.toList d1
 subst this
 exact r.inj r'
theorem Inv.tuple_inj(I:Inv X pins σ H s)(h:SqT X.K H a xs)(h':SqT X.K H a ys):xs=ys:=by
 obtain⟨its,r,⟨o,e,_,n,d⟩,_⟩:=I.tuple h
 obtain⟨its',r',⟨o',e',_,n',d'⟩,_⟩:=I.tuple h'
 rw[e]at e';cases e'
 rw[d]at d'
 injection d' with d1 _
 have:its=its':=by simpa using congrArg Array.toList d1
 subst this
 exact r.inj r'
end
abbrev Cx.wish(X:Cx)(E:Value->Shared->Prop):Cx:={ X with xe:=E }
abbrev Cx.nox(X:Cx):Cx:=X.wish λ_ _=>False
theorem Cx.Ok.wish{X:Cx}(ok:X.Ok)(E:Value->Shared->Prop):(X.wish E).Ok :=
 ⟨ok.mod,ok.kind,ok.glob,ok.blt,ok.above,ok.inj,ok.has,ok.cab,ok.hd,ok.frames,ok.stk,ok.exf,ok.bs,ok.bsz,ok.noex,ok.exfs,ok.funs,ok.frf,ok.tk⟩
theorem Cx.Ok.unwish{X:Cx}{E:Value->Shared->Prop}(ok:(X.wish E).Ok):X.Ok :=
 ⟨ok.mod,ok.kind,ok.glob,ok.blt,ok.above,ok.inj,ok.has,ok.cab,ok.hd,ok.frames,ok.stk,ok.exf,ok.bs,ok.bsz,ok.noex,ok.exfs,ok.funs,ok.frf,ok.tk⟩
section
variable{X:Cx}{pins:List (Addr×Obj)}{σ:St}{H:Hp}{s:Shared}{E:Value->Shared->Prop}
theorem Inv.wish(I:Inv X pins σ H s)(E:Value->Shared->Prop):Inv (X.wish E) pins σ H s:=⟨I.ok.wish E,I.os,I.bare,I.base,I.loc,I.cell,I.free,I.freeC,I.pin,I.hok,I.len,I.up⟩
theorem Inv.unwish(I:Inv (X.wish E) pins σ H s):Inv X pins σ H s:=⟨I.ok.unwish,I.os,I.bare,I.base,I.loc,I.cell,I.free,I.freeC,I.pin,I.hok,I.len,I.up⟩
theorem SP.unwish{D:Ends}{f:Flow}{s':Shared}(h:SP (X.wish E) pins D f s'):SP X pins D f s':=by
 cases f with
 |next=>obtain⟨σ',H',I,q⟩:=h;exact⟨σ',H',I.unwish,q⟩
 |brk=>obtain⟨σ',H',I,q⟩:=h;exact⟨σ',H',I.unwish,q⟩
 |cont=>obtain⟨σ',H',I,q⟩:=h;exact⟨σ',H',I.unwish,q⟩
 |ret u=>obtain⟨v,σ',H',I,r,q⟩:=h;exact⟨v,σ',H',I.unwish,r,q⟩
theorem PSs.nox{st:List Stmt}{t:TS}(h:PSs X.nox st t):PSs X st t:=λpins s σ H D I hw =>
 wpAny_mono (h pins s σ H D (I.wish _) hw) (λ_ _ q=>q.unwish) λ_ _ z=>False.elim z
end
section
variable{X:Cx}{st:Stmt}{rest:List Stmt}{t u:TS}{e:Expr}{te:TE}{pos:Pos}
def tNext:TS:=λD σ H=>D.nx σ H
def tSeq(t u:TS):TS:=λD σ H=>t { D with nx:=u D } σ H
theorem q1a:PSs X [] tNext:=λ_ _ σ H _ I h=>wpAny_execs_nil ⟨σ,H,I,h⟩
theorem q0c(h1:PS X st t)(h2:PSs X rest u):PSs X (st::rest) (tSeq t u):=by
 intro pins s σ H D I h
 refine wpAny_execs_cons (thn (h1 pins s σ H { D with nx:=u D } I h) λf s1 q=>?_)
 cases f with
 |next =>
  obtain⟨σ',H',I',q⟩:=q
  exact h2 pins s1 σ' H' D I' q
 |ret v=>exact q
 |brk=>exact q
 |cont=>exact q
theorem q0d(h1:PS X st t):PSs X [st] t:=by
 intro pins s σ H D I h
 refine wpAny_execs_cons (thn (h1 pins s σ H D I h) λf s1 q=>?_)
 cases f with
 |next=>exact wpAny_execs_nil q
 |ret v=>exact q
 |brk=>exact q
 |cont=>exact q
theorem Inv.quiet{pins:List (Addr×Obj)}{σ:St}{H:Hp}{s:Shared}(I:Inv X pins σ H s):interactive X.env=false:=by simp[interactive,I.ok.kind]
def tDrop(te:TE):TS:=λD σ H=>te σ H λ_ H1=>D.nx σ H1
theorem q1r(he:PE X e te)(hs:swapsWith e none pos.line X.env=pure false:=by rfl):PS X (.Expr e pos) (tDrop te):=by
 intro pins s σ H D I h
 exact wpAny_Expr_any (thn (he pins s σ H _ I h) λv s1 ⟨x,H1,I1,r1,q1⟩=>⟨σ,H1,I1,q1⟩) I.quiet hs
def tRet(te:TE):TS:=λD σ H=>te σ H D.rt
theorem q0r(he:PE X e te):PS X (.Return (some e) pos) (tRet te):=by
 intro pins s σ H D I h
 exact wpAny_Return_some (thn (he pins s σ H _ I h) λv s1 ⟨x,H1,I1,r1,q1⟩=>⟨x,σ,H1,I1,r1,q1⟩)
def tIfS(c:TT)(t u:TS):TS:=λD σ H=>c σ H λb H1=>if b=true then t D σ H1 else u D σ H1
theorem q2h{c:Expr}{a b:List Stmt}{tc:TT}(hc:PT X c tc)(ha:PSs X a t)(hb:PSs X b u):PS X (.If c a b pos) (tIfS tc t u):=by
 intro pins s σ H D I h
 refine wpAny_If (thn (hc pins s σ H _ I h) λd s1 ⟨H1,I1,q1⟩=>?_)
 cases d with
 |true=>exact ha pins s1 σ H1 D I1 q1
 |false=>exact hb pins s1 σ H1 D I1 q1
def tNever:TS:=λ_ _ _=>False
theorem q5p{sts:List Stmt}:PSs X sts tNever:=λ_ _ _ _ _ _ h=>h.elim
end
abbrev TG:=V->St->Hp->(St->Hp->Prop)->Prop
abbrev TGs:=List V->St->Hp->(St->Hp->Prop)->Prop
def PG(X:Cx)(target:Expr)(t:TG):Prop :=
 ∀(pins:List (Addr×Obj)) (s:Shared) (σ:St) (H:Hp) (v:V) (u:Value) (Q:St->Hp->Prop),Inv X pins σ H s->RelV v u->t v σ H Q →
  wpAny (model X.prog X.w) X.A (assign target X.env u) (λ_ s'=>∃ σ' H',Inv X pins σ' H' s'/\Q σ' H') X.xe s
def PGs(X:Cx)(ts:List Expr)(t:TGs):Prop :=
 ∀(pins:List (Addr×Obj)) (s:Shared) (σ:St) (H:Hp) (vs:List V) (us:List Value) (Q:St->Hp->Prop),Inv X pins σ H s->Vals vs us->t vs σ H Q →
  wpAny (model X.prog X.w) X.A (assignInOrder ((assignEach ts X.env).map (·.2)) us) (λ_ s'=>∃ σ' H',Inv X pins σ' H' s'/\Q σ' H') X.xe s
abbrev TSet:=V->V->V->Hp->(Hp->Prop)->Prop
def PSet(X:Cx)(t:TSet):Prop :=
 ∀(pins:List (Addr×Obj)) (s:Shared) (σ:St) (H:Hp) (o i v:V) (ov iv u:Value) (Q:Hp->Prop),Inv X pins σ H s->RelV o ov->RelV i iv->RelV v u->t o i v H Q →
  wpAny (model X.prog X.w) X.A (setItem ov iv u) (λ_ s'=>∃H',Inv X pins σ H' s'/\Q H') X.xe s
section
variable{X:Cx}{pos:Pos}
def gName(i:Nat):TG:=λv σ H Q=>Q (σ.set i (some v)) H
theorem q0m{i:Nat}{x:Str}(hN:X.N.Nodup)(hi:X.N[i]? =some x)(hx:Loc X.env.scope x)(hf:X.fn x=true\/X.env.scope.names.lookup x=some .local:=by first|exact .inl rfl|exact .inr rfl|assumption):PG X (.Name x pos) (gName i):=by
 intro pins s σ H v u Q I r h
 exact wpAny_assign_Name (z4p I hN hi hx r (λs' I'=>⟨_,H,I',h⟩) hf)
def gNil:TGs:=λvs σ H Q=>vs=[]/\Q σ H
def gCons(t:TG)(u:TGs):TGs:=λvs σ H Q=>∃v r,vs=v::r/\t v σ H λσ' H'=>u r σ' H' Q
theorem q8v:PGs X [] gNil:=by
 intro pins s σ H vs us Q I r h
 obtain⟨e,h⟩:=h
 subst e
 cases r
 exact assignInOrder_nil ⟨σ,H,I,h⟩
theorem q2p{e:Expr}{es:List Expr}{t:TG}{u:TGs}(h1:PG X e t)(h2:PGs X es u)
  (hs:(assignEach (e::es) X.env).map (·.2)=assign e X.env::(assignEach es X.env).map (·.2):=by rfl):PGs X (e::es) (gCons t u):=by
 intro pins s σ H vs us Q I r h
 obtain⟨v,vr,e1,h⟩:=h
 subst e1
 cases r with
 |cons r rr =>
  rw[hs]
  refine assignInOrder_cons (thn (h1 pins s σ H _ _ _ I r h) λ_ s1 ⟨σ1,H1,I1,q1⟩=>?_)
  exact h2 pins s1 σ1 H1 _ _ Q I1 rr q1
def gTup(K:PySem.W.Frag)(n:Nat)(t:TGs):TG:=λv σ H Q=>∃a xs,v= .ref a/\SqT K H a xs/\xs.length=n/\t xs σ H Q
theorem z2p{es:List Expr}{k:Nat}{t:TGs}{n:Nat}(hc:X.calm=true)(h:PGs X es t)
  (hn:(assignEach es X.env).length=n:=by rfl) (hst:(assignEach es X.env).findIdx? (·.1)=none:=by rfl):PG X (.Tuple es k pos) (gTup X.K n t):=by
 intro pins s σ H v u Q I r hw
 obtain⟨a,xs,e1,hq,hl,hw⟩:=hw
 subst e1
 cases r
 obtain⟨its,rv,ht,hz⟩:=I.tuple hq
 refine assign_Tuple_tuple (I.ok.hd hc) ht (by simp[hn,←hl,rv.length]) hst λh' hx=>?_
 have I1:Inv X pins σ H { s with heap:=h' }:=I.kept (t':=s.toks) λb o e=>hx b o (Nat.ne_of_lt (Heap.lt_size e)) e
 exact h pins _ σ H xs _ Q I1 (by simpa using rv) hw
def gSub(to ti:TE)(t:TSet):TG:=λv σ H Q=>to σ H λo H1=>ti σ H1 λi H2=>t o i v H2 λH3=>Q σ H3
theorem pg_sub{o i:Expr}{to ti:TE}{t:TSet}(ho:PE X o to)(hi:PE X i ti)(hs:PSet X t)
  (ha:∀v,assign (.Subscript o i pos) X.env v=(do
   let ov ←holding [v] (eval o X.env)
   let iv ←holding [v,ov] (eval i X.env)
   standAt pos
   holding [v,ov,iv] (setItem ov iv v)
   release [v,ov,iv] []):=by intro _;rfl):PG X (.Subscript o i pos) (gSub to ti t):=by
 intro pins s σ H v u Q I r h
 rw[ha]
 refine wpAny_bind (wpAny_holding (thn (ho pins s σ H _ I h) λov s1 ⟨x,H1,I1,r1,q1⟩=>?_))
 refine wpAny_bind (wpAny_holding (thn (hi pins s1 σ H1 _ I1 q1) λiv s2 ⟨y,H2,I2,r2,q2⟩=>?_))
 refine wpAny_bind (wpAny_standAt (wpAny_bind (wpAny_holding (thn (hs pins s2 σ H2 x y v ov iv u _ I2 r1 r2 r q2) λ_ s3 ⟨H3,I3,q3⟩=>?_))))
 exact wpAny_release ⟨σ,H3,I3,q3⟩
def tAsg(te:TE)(g:TG):TS:=λD σ H=>te σ H λx H1=>g x σ H1 D.nx
theorem ps_asg{tg e:Expr}{te:TE}{g:TG}(he:PE X e te)(hg:PG X tg g)(hs:swapsWithSole [tg] e pos.line X.env=pure false:=by rfl)(hw:swappedStores [tg] e X.env=pure none:=by rfl)
  (h1:(assignEach [tg] X.env).map (·.2)=[assign tg X.env]:=by rfl):PS X (.Assign [tg] e pos) (tAsg te g):=by
 intro pins s σ H D I h
 refine wpAny_Assign_stores (thn (he pins s σ H _ I h) λv s1 ⟨x,H1,I1,r1,q1⟩=>?_) hs hw
 rw[h1]
 exact thn (hg pins s1 σ H1 x v _ I1 r1 q1) λ_ s2 q=>q
theorem q0n{i:Nat}{x:Str}{e:Expr}{te:TE}{pos':Pos}(hN:X.N.Nodup)(hi:X.N[i]? =some x)(hx:Loc X.env.scope x)(he:PE X e te)(hs:swapsWith e (some (.Name x pos')) pos.line X.env=pure false:=by rfl)(hf:X.fn x=true\/X.env.scope.names.lookup x=some .local:=by first|exact .inl rfl|exact .inr rfl|assumption):
  PS X (.Assign [.Name x pos'] e pos) (tAsg te (gName i)):=by
 intro pins s σ H D I h
 refine wpAny_Assign_Name (thn (he pins s σ H _ I h) λv s1 ⟨y,H1,I1,r1,q1⟩=>?_) hs
 exact z4p I1 hN hi hx r1 (λs2 I2=>⟨_,H1,I2,q1⟩) hf
end
section
variable{X:Cx}{pos:Pos}
def tWhile(c:TT)(tb:TS):TS:=λD σ H=>∃W:Nat->St->Hp->Prop,(∃m,W m σ H)/\∀m σ H,W m σ H →
 c σ H λb H1=>if b=true then ∃N:St->Hp->Prop,(∀ σ' H',N σ' H'->∃m',m'<m/\W m' σ' H')/\tb { D with nx:=N,ct:=N,bk:=D.nx } σ H1 else D.nx σ H1
theorem ps_while{c:Expr}{body:List Stmt}{tc:TT}{tb:TS}(hp:PassesOwn (model X.prog X.w) X.A X.env X.xe)(hc:PT X c tc)(hb:PSs X body tb):PS X (.While c body [] pos) (tWhile tc tb):=by
 intro pins s σ H D I h
 obtain⟨W,⟨m0,w0⟩,turn⟩:=h
 refine wpAny_While (codeAny_whileLoop (λn s'=>∃ σ' H',Inv X pins σ' H' s'/\W n σ' H') ?_ m0 ⟨σ,H,I,w0⟩)
 rintro n s1 ⟨σ1,H1,I1,w1⟩
 refine wpAny_passesOwn hp (thn (hc pins s1 σ1 H1 _ I1 (turn n σ1 H1 w1)) λb s2 ⟨H2,I2,q2⟩=>?_)
 cases b with
 |true =>
  obtain⟨N,hN,q2⟩:=q2
  rw[if_pos rfl]
  refine wpAny_passesOwn hp (thn (hb pins s2 σ1 H2 _ I2 q2) λf s3 q3=>?_)
  cases f with
  |next =>
   obtain⟨σ3,H3,I3,n3⟩:=q3
   obtain⟨m',hm,w3⟩:=hN σ3 H3 n3
   exact⟨m',hm,σ3,H3,I3,w3⟩
  |cont =>
   obtain⟨σ3,H3,I3,n3⟩:=q3
   obtain⟨m',hm,w3⟩:=hN σ3 H3 n3
   exact⟨m',hm,σ3,H3,I3,w3⟩
  |brk=>exact q3
  |ret v=>exact q3
 |false =>
  rw[if_neg Bool.false_ne_true]
  exact wpAny_execs_nil ⟨σ1,H2,I2,q2⟩
end
structure It where
 go:Nat->Hp->Prop
 yld:Nat->Hp->V->Hp->Prop
 stop:Nat->Hp->Prop
def FpOk(X:Cx)(pins:List (Addr×Obj))(H:Hp)(b:Addr):Prop :=
 H b=none/\b≠X.env.locals/\b∉X.fs/\(b∈X.ex\/X.s₀.heap.objs.size<=b)/\(∀x c,X.env.cells.lookup x=some c->c≠b)/\∀p∈X.pn++pins,p.1≠b
theorem Inv.fpOk{X:Cx}{pins:List (Addr×Obj)}{σ:St}{H H':Hp}{s:Shared}{b:Addr}(I:Inv X pins σ H s)(hb:s.heap.objs.size<=b)(hn:H' b=none):FpOk X pins H' b:=by
 refine⟨hn,Nat.ne_of_gt (Nat.lt_of_lt_of_le I.lt hb),I.nofs hb,.inr (Nat.le_trans I.sz hb),λx c e z=>?_,λp hp z=>?_⟩
 ·obtain⟨v,q⟩:=I.cell x c e
  exact absurd (Nat.lt_of_lt_of_le q.lt (by rw[z];exact hb)) (Nat.lt_irrefl _)
 ·exact absurd (Nat.lt_of_lt_of_le (Heap.lt_size (I.pin p hp).1) (by rw[z];exact hb)) (Nat.lt_irrefl _)
structure Turn(P:Program)(w:World)(K:PySem.W.Frag)(tg:Expr)(J:It)(fp:List Addr)(it:Addr)(tn:Nat->Heap->Prop):Prop where
 mem:it∈fp
 obj:∀i h,tn i h->∀b∈fp,∃o,h.get? b=some o/\∀v,o.data≠ .cell v
 keep:∀i h h',tn i h->(∀b∈fp,∀o,h.get? b=some o->h'.get? b=some o)->tn i h'
 item:∀(X:Cx),X.prog=P->X.w=w->X.K=K->X.calm=true->∀(i:Nat) (pins:List (Addr×Obj)) (s:Shared) (σ:St) (H:Hp) (E:Value->Shared->Prop),Inv X pins σ H s->(∀b∈fp,FpOk X pins H b)->tn i s.heap->J.go i H →
  wpAny (model P w) X.A (pyNext (.ref it)) (λr s1=>∃u,r=some u ∧
   wpAny (model P w) X.A (letOwnedTupleGo tg (.ref it) u) (λ_ s2=>∃x H',Inv X pins σ H' s2/\RelV x u/\J.yld i H x H'/\tn (i+1) s2.heap/\∀b∈fp,H' b=none) E s1) E s
 done:∀(X:Cx),X.prog=P->X.w=w->X.K=K->X.calm=true->∀(i:Nat) (pins:List (Addr×Obj)) (s:Shared) (σ:St) (H:Hp) (E:Value->Shared->Prop),Inv X pins σ H s->(∀b∈fp,FpOk X pins H b)->tn i s.heap->J.stop i H →
  wpAny (model P w) X.A (pyNext (.ref it)) (λr s1=>r=none/\Inv X pins σ H s1) E s
 self:∀(A:Around) (i:Nat) (s:Shared) (Q:Value->Shared->Prop) (E:Value->Shared->Prop),tn i s.heap->Q (.ref it) s->wpAny (model P w) A (pyIter (.ref it)) Q E s
abbrev TI:=St->Hp->(It->Hp->Prop)->Prop
def PIE(X:Cx)(pins:List (Addr×Obj))(σ:St)(tg:Expr)(R:It->Hp->Prop)(itv:Value)(s2:Shared):Prop :=
 ∃(it:Addr) (fp:List Addr) (tn:Nat->Heap->Prop) (J:It) (H':Hp),itv= .ref it/\Inv X pins σ H' s2/\Turn X.prog X.w X.K tg J fp it tn/\tn 0 s2.heap/\(∀b∈fp,FpOk X pins H' b)/\R J H'
def PI(X:Cx)(tg iter:Expr)(wi:TI):Prop :=
 ∀(pins:List (Addr×Obj)) (s:Shared) (σ:St) (H:Hp) (R:It->Hp->Prop),Inv X pins σ H s->wi σ H R →
  wpAny (model X.prog X.w) X.A (eval iter X.env) (λv s1=>wpAny (model X.prog X.w) X.A (pyIter v) (PIE X pins σ tg R) X.xe s1) X.xe s
theorem go_of{M:Model}{A:Around}{E:Value->Shared->Prop}{s:Shared}{tg:Expr}{it:Addr}{u:Value}{o:Obj}{n:String}{vs:Array Value}{Q:Unit->Shared->Prop}(ho:s.heap.get? it=some o)(hc:o.cls= .type n)(hd:o.data= .fields vs)
  (hn:["enumerate","zip","dict_itemiterator","dict_reverseitemiterator","odict_iterator","itertools.zip_longest","itertools.pairwise"].contains n=false) (hQ:Q () s):wpAny M A (letOwnedTupleGo tg (.ref it) u) Q E s:=by
 unfold letOwnedTupleGo
 cases tg<;>first
  |exact wpAny_pure hQ
  |(cases u<;>first
    |exact wpAny_pure hQ
    |(refine wpAny_bind (wpAny_load ho ?_)
      rw[hc,hd]
      show wpAny M A (if(["enumerate","zip","dict_itemiterator","dict_reverseitemiterator","odict_iterator","itertools.zip_longest","itertools.pairwise"].contains n&&vs[0]? ==some (rawInt _))=true then _ else _) Q E s
      rw[if_neg (by intro h;rw[hn,Bool.false_and]at h;cases h)]
      exact wpAny_pure hQ))
def Itl(K:PySem.W.Frag)(a:Addr):It :=
 ⟨λi H=>∃xs x,SqL K H a xs/\xs[i]? =some x,λi H x H'=>H'=H/\∀xs,SqL K H a xs->xs[i]? =some x,λi H=>∃xs,SqL K H a xs/\xs.length<=i⟩
def Itt(K:PySem.W.Frag)(a:Addr):It :=
 ⟨λi H=>∃xs x,SqT K H a xs/\xs[i]? =some x,λi H x H'=>H'=H/\∀xs,SqT K H a xs->xs[i]? =some x,λi H=>∃xs,SqT K H a xs/\xs.length<=i⟩
def Itr(lo:Int)(n:Nat):It:=⟨λi _=>i<n,λi H x H'=>H'=H/\x= .int (lo+i),λi _=>n<=i⟩
theorem turn_list{P:Program}{w:World}{K:PySem.W.Frag}{tg:Expr}(a it:Addr):Turn P w K tg (Itl K a) [it] it (λi h=>h.IsListIter it a i) where
 mem:=by simp
 obj:=λi h st b hb=>by
  have e:b=it:=by simpa using hb
  subst e
  obtain⟨o,e,c,d⟩:=st
  exact⟨o,e,λv z=>by rw[d]at z;cases z⟩
 keep:=λi h h' st k=>st.at λo e=>k it (by simp) o e
 item:=by
  intro X hP hw hK hc i pins s σ H E I hf st hg
  subst hP hw hK
  obtain⟨xs,x,hq,hx⟩:=hg
  obtain⟨its,rv,p,hz⟩:=I.list hq
  obtain⟨u,hu,ru⟩:=rv.get hx
  obtain⟨f0,f1,f2,f3,f4,f5⟩:=hf it (by simp)
  refine wpAny_pyNext_list_item st p.isList (x:=u) (by simpa using hu) λh' st' sb=>?_
  have I1:Inv X pins σ H { s with heap:=h' }:=I.turned (t':=s.toks) (λb o hb e=>(sb.2 b hb).trans e) f0 f1 f3 f4 f5
  obtain⟨o,e,c,d⟩:=id st'
  exact⟨u,rfl,go_of (s:={ s with heap:=h' }) e c d (by decide) ⟨x,H,I1,ru,⟨rfl,λys hy=>by rw[I.list_inj hy hq];exact hx⟩,st',λb hb=>(hf b hb).1⟩⟩
 done:=by
  intro X hP hw hK hc i pins s σ H E I hf st hg
  subst hP hw hK
  obtain⟨xs,hq,hx⟩:=hg
  obtain⟨its,rv,p,hz⟩:=I.list hq
  obtain⟨f0,f1,f2,f3,f4,f5⟩:=hf it (by simp)
  have hl:=rv.length
  exact wpAny_pyNext_list_end (I.ok.hd hc) st p.isList (by simp;omega) λh' eb=>⟨rfl,I.turned (t':=s.toks) (λb o hb e=>eb b o hb e) f0 f1 f3 f4 f5⟩
 self:=λ_ _ _ _ _ st h=>wpAny_pyIter_listiter st h
theorem turn_tuple{P:Program}{w:World}{K:PySem.W.Frag}{tg:Expr}(a it:Addr):Turn P w K tg (Itt K a) [it] it (λi h=>h.IsTupleIter it a i) where
 mem:=by simp
 obj:=λi h st b hb=>by
  have e:b=it:=by simpa using hb
  subst e
  obtain⟨o,e,c,d⟩:=st
  exact⟨o,e,λv z=>by rw[d]at z;cases z⟩
 keep:=λi h h' st k=>st.at λo e=>k it (by simp) o e
 item:=by
  intro X hP hw hK hc i pins s σ H E I hf st hg
  subst hP hw hK
  obtain⟨xs,x,hq,hx⟩:=hg
  obtain⟨its,rv,p,hz⟩:=I.tuple hq
  obtain⟨u,hu,ru⟩:=rv.get hx
  obtain⟨f0,f1,f2,f3,f4,f5⟩:=hf it (by simp)
  refine wpAny_pyNext_tuple_item st (show s.heap.IsTuple a its.toArray from p) (x:=u) (by simpa using hu) λh' st' sb=>?_
  have I1:Inv X pins σ H { s with heap:=h' }:=I.turned (t':=s.toks) (λb o hb e=>(sb.2 b hb).trans e) f0 f1 f3 f4 f5
  obtain⟨o,e,c,d⟩:=id st'
  exact⟨u,rfl,go_of (s:={ s with heap:=h' }) e c d (by decide) ⟨x,H,I1,ru,⟨rfl,λys hy=>by rw[I.tuple_inj hy hq];exact hx⟩,st',λb hb=>(hf b hb).1⟩⟩
 done:=by
  intro X hP hw hK hc i pins s σ H E I hf st hg
  subst hP hw hK
  obtain⟨xs,hq,hx⟩:=hg
  obtain⟨its,rv,p,hz⟩:=I.tuple hq
  obtain⟨f0,f1,f2,f3,f4,f5⟩:=hf it (by simp)
  have hl:=rv.length
  exact wpAny_pyNext_tuple_end (I.ok.hd hc) st (show s.heap.IsTuple a its.toArray from p) (by simp;omega) λh' eb=>⟨rfl,I.turned (t':=s.toks) (λb o hb e=>eb b o hb e) f0 f1 f3 f4 f5⟩
 self:=λ_ _ _ _ _ st h=>wpAny_pyIter_tupleiter st h
theorem turn_range{P:Program}{w:World}{K:PySem.W.Frag}{tg:Expr}(it:Addr)(lo:Int)(n:Nat):Turn P w K tg (Itr lo n) [it] it (λi h=>IsRangeIter h it (lo+(i:Nat)*1) ((n:Int)-(i:Nat)) 1) where
 mem:=by simp
 obj:=λi h st b hb=>by
  have e:b=it:=by simpa using hb
  subst e
  exact⟨_,st,λv z=>by
   have z':Data.fields _=Data.cell v:=z
   cases z'⟩
 keep:=λi h h' st k=>k it (by simp) _ st
 item:=by
  intro X hP hw hK hc i pins s σ H E I hf st hg
  subst hP hw hK
  obtain⟨f0,f1,f2,f3,f4,f5⟩:=hf it (by simp)
  have W:=Walks.range (prog:=X.prog) (w:=X.w) (I.ok.hd hc) it lo 1 n
  refine TK.wpAny_up (Nat.le_refl s.toks) (W.item i s _ _ hg st λv h' tk hv st' kk hup=>?_)
  obtain⟨t,rfl⟩:=hv
  have I1:Inv X pins σ H { s with heap:=h',toks:=tk }:=I.turned (λb o hb e=>kk b o (by simpa using hb) e) f0 f1 f3 f4 f5
  refine⟨_,rfl,go_of (s:={ s with heap:=h',toks:=tk }) (n:= "range_iterator") st' rfl rfl (by decide) ⟨.int (lo+i),H,I1,⟨t,?_⟩,⟨rfl,rfl⟩,st',λb hb=>(hf b hb).1⟩⟩
  rw[Int.mul_one]
 done:=by
  intro X hP hw hK hc i pins s σ H E I hf st hg
  subst hP hw hK
  obtain⟨f0,f1,f2,f3,f4,f5⟩:=hf it (by simp)
  exact wpAny_pyNext_range_end (I.ok.hd hc) st (by have:n<=i:=hg;omega) λh' eb=>⟨rfl,I.turned (t':=s.toks) (λb o hb e=>eb b o hb e) f0 f1 f3 f4 f5⟩
 self:=λ_ _ _ _ _ st h=>wpAny_pyIter_rangeiter st h
end L2
namespace L2
open PySem PySem.Spec PyProof.Rows
section
variable{X:Cx}{tg:Expr}
def iList(K:PySem.W.Frag)(tl:TE):TI:=λσ H R=>tl σ H λx H1=>∃a,x= .ref a/\(∃xs,SqL K H1 a xs)/\R (Itl K a) H1
theorem q2s{l:Expr}{tl:TE}(hl:PE X l tl):PI X tg l (iList X.K tl):=by
 intro pins s σ H R I h
 refine thn (hl pins s σ H _ I h) λv s1 ⟨x,H1,I1,r1,q1⟩=>?_
 obtain⟨a,e,⟨xs,hq⟩,q⟩:=q1
 subst e
 cases r1
 obtain⟨its,rv,p,hz⟩:=I1.list hq
 refine wpAny_pyIter_list p.isList ?_
 refine⟨s1.heap.objs.size,[s1.heap.objs.size],_,_,H1,rfl,I1.kept (t':=s1.toks) λb o e=>Heap.get?_push_of_some _ e,turn_list a _,⟨_,Heap.get?_push_size _ rfl,rfl,rfl⟩,λb hb=>?_,q⟩
 have e:b=s1.heap.objs.size:=by simpa using hb
 subst e
 exact I1.fpOk (Nat.le_refl _) (I1.hok.fresh (Nat.le_refl _))
theorem range_it{pins:List (Addr×Obj)}{σ:St}{H:Hp}{s:Shared}{R:It->Hp->Prop}{E:Value->Shared->Prop}{lo hi:Int}{t u v:Tok}{tk:Nat}(I:Inv X pins σ H s)(h1: -(2 ^ 62)<=lo)(h2:lo<2 ^ 62)(h3: -(2 ^ 62)<=hi)(h4:hi<2 ^ 62)
  (q:R (Itr lo (hi-lo).toNat) H) (htk:s.toks<=tk:=by first|exact Nat.le_refl _|exact Nat.le_succ _|assumption|omega):wpAny (model X.prog X.w) X.A (pyIter (.ref s.heap.objs.size)) (PIE X pins σ tg R) E { s with heap:=s.heap.push { cls:=.type "range",data:=.fields #[.int lo t,.int hi u,.int 1 v] },toks:=tk }:=by
 refine wpAny_pyIter_range (IsRange.new ..) (small_one h1 h2 h3 h4) ?_
 have I1:Inv X pins σ H { s with heap:=s.heap.push { cls:=.type "range",data:=.fields #[.int lo t,.int hi u,.int 1 v] },toks:=tk }:=I.kept λb o e=>Heap.get?_push_of_some _ e
 refine⟨(s.heap.push { cls:=.type "range",data:=.fields #[.int lo t,.int hi u,.int 1 v] }).objs.size,[(s.heap.push { cls:=.type "range",data:=.fields #[.int lo t,.int hi u,.int 1 v] }).objs.size],_,_,H,rfl,
  I1.kept (t':=tk) λb o e=>Heap.get?_push_of_some _ e,turn_range _ lo (hi-lo).toNat,?_,λb hb=>?_,q⟩
 ·have e1:lo+((0:Nat):Int)*1=lo:=by simp
  have e2:(((hi-lo).toNat:Nat):Int)-((0:Nat):Int)=Builtin.Range.rangeSize lo hi 1:=by rw[rangeSize_one];split<;>omega
  show IsRangeIter _ _ (lo+((0:Nat):Int)*1) ((((hi-lo).toNat:Nat):Int)-((0:Nat):Int)) 1
  rw[e1,e2]
  exact Heap.get?_push_size _ rfl
 ·have e:b=(s.heap.push { cls:=.type "range",data:=.fields #[.int lo t,.int hi u,.int 1 v] }).objs.size:=by simpa using hb
  subst e
  exact I1.fpOk (Nat.le_refl _) (I1.hok.fresh (Nat.le_refl _))
def iRng1(ta:TA):TI:=λσ H R=>ta σ H λvs H1=>∃j:Int,vs=[.int j]/\ -(2 ^ 62)<=j/\j<2 ^ 62/\R (Itr 0 j.toNat) H1
def iRng2(ta:TA):TI:=λσ H R=>ta σ H λvs H1=>∃i j:Int,vs=[.int i,.int j]/\(-(2 ^ 62)<=i/\i<2 ^ 62/\ -(2 ^ 62)<=j/\j<2 ^ 62)/\R (Itr i (j-i).toNat) H1
theorem q1s {a:Expr} {ta:TA} {p pos:Pos} (hg:Gl X "range") (hm:X.mg "range" =none) (ha:PA X [a] ta) (hs:starEach [a] X.env=[(false,eval a X.env)]:=by rfl):PI X tg (.Call (.Name "range" p) [a] [] pos) (iRng1 ta):=by
 intro pins s σ H R I h
 refine Call_ (q9w I hg hm boot_range (PyProof.Rows.callWith_type1 (thn (ha pos pins s σ H _ I h) λus s1 ⟨vs,H1,I1,r1,q1⟩=>?_) hs rfl))
 obtain⟨j,e,q1,q2,q⟩:=q1
 subst e
 cases r1 with
 |cons r rr =>
  cases rr
  obtain⟨t,rfl⟩:=r
  exact call_range_1 (range_it I1 (by omega) (by omega) q1 q2 (by simpa using q))
theorem pi_range2 {a b:Expr} {ta:TA} {p pos:Pos} (hg:Gl X "range") (hm:X.mg "range" =none) (ha:PA X [a,b] ta) (hs:starEach [a,b] X.env=[(false,eval a X.env),(false,eval b X.env)]:=by rfl) (hs2:starEach [b] X.env=[(false,eval b X.env)]:=by rfl) :
  PI X tg (.Call (.Name "range" p) [a,b] [] pos) (iRng2 ta):=by
 intro pins s σ H R I h
 refine Call_ (q9w I hg hm boot_range (PyProof.Rows.callWith_type1 (thn (ha pos pins s σ H _ I h) λus s1 ⟨vs,H1,I1,r1,q1⟩=>?_) (by rw[hs,hs2]) (by rw[hs2];rfl)))
 obtain⟨i,j,e,⟨q1,q2,q3,q4⟩,q⟩:=q1
 subst e
 cases r1 with
 |cons r rr =>
  cases rr with
  |cons r' rr =>
   cases rr
   obtain⟨t,rfl⟩:=r
   obtain⟨t',rfl⟩:=r'
   exact call_range_2 (range_it I1 q1 q2 q3 q4 q)
def tFor(wi:TI)(g:TG)(tb:TS):TS:=λD σ H=>wi σ H λJ H1=>∃W:Nat->Nat->St->Hp->Prop,(∃m,W 0 m σ H1)/\∀i m σ H,W i m σ H →
 (J.stop i H/\D.nx σ H)\/(J.go i H/\∃N:St->Hp->Prop,(∀ σ' H',N σ' H'->∃m',m'<m/\W (i+1) m' σ' H')/\∀x H',J.yld i H x H'->g x σ H' λσ2 H2=>tb { D with nx:=N,ct:=N,bk:=D.nx } σ2 H2)
def pinsAt(fp:List Addr)(h:Heap):List (Addr×Obj):=fp.filterMap λb=>(h.get? b).map λo=>(b,o)
theorem q8i{fp:List Addr}{h:Heap}{b:Addr}{o:Obj}(hb:b∈fp)(e:h.get? b=some o):(b,o)∈pinsAt fp h:=List.mem_filterMap.mpr ⟨b,hb,by rw[e];rfl⟩
theorem of_pinsAt{fp:List Addr}{h:Heap}{p:Addr×Obj}(hp:p∈pinsAt fp h):p.1∈fp/\h.get? p.1=some p.2:=by
 obtain⟨b,hb,e⟩:=List.mem_filterMap.mp hp
 cases q:h.get? b with
 |none=>rw[q]at e;cases e
 |some o =>
  rw[q]at e
  have e':(b,o)=p:=Option.some.inj e
  subst e'
  exact⟨hb,q⟩
theorem Inv.pinned{pins:List (Addr×Obj)}{σ:St}{H:Hp}{s:Shared}{fp:List Addr}(I:Inv X pins σ H s)(hf:∀b∈fp,FpOk X pins H b)(ho:∀b∈fp,∃o,s.heap.get? b=some o/\∀v,o.data≠ .cell v):Inv X (pins++pinsAt fp s.heap) σ H s :=
 I.pins_of λp hp=>(List.mem_append.mp hp).elim (λz=>I.pin p (List.mem_append_right _ z)) λz=>by
  obtain⟨hb,e⟩:=of_pinsAt z
  obtain⟨f0,f1,f2,_⟩:=hf p.1 hb
  obtain⟨o,e',d⟩:=ho p.1 hb
  rw[e]at e';cases e'
  exact⟨e,f0,f1,f2,d⟩
theorem Inv.unpinned{pins pl:List (Addr×Obj)}{σ:St}{H:Hp}{s:Shared}(I:Inv X (pins++pl) σ H s):Inv X pins σ H s:=I.pins_of λp hp=>I.pin p (List.mem_append_right _ (List.mem_append_left _ hp))
theorem q1n{iter:Expr}{body:List Stmt}{wi:TI}{g:TG}{tb:TS}{pos:Pos}(hp:PassesOwn (model X.prog X.w) X.A X.env X.xe)(hc:X.calm=true)(hi:PI X tg iter wi)(hg:PG X tg g)(hb:PSs X body tb)
  (hs:∀x,foldedSetIterable iter X.env x=pure x:=by intro _;rfl):PS X (.For tg iter body [] pos) (tFor wi g tb):=by
 intro pins s σ H D I h
 refine wpAny_For (thn (hi pins s σ H _ I h) λv s1 h1=>thn h1 λitv s2 h2=>?_) hs
 obtain⟨it,fp,tn,J,H2,e,I2,T,st2,f2,W,⟨m0,w0⟩,turn⟩:=h2
 subst e
 have stat:∀{H':Hp},(∀b∈fp,H' b=none)->∀b∈fp,FpOk X pins H' b:=λhn b hb=>⟨hn b hb,(f2 b hb).2⟩
 refine codeAny_forLoop_any (λn s'=>∃i σ' H',Inv X pins σ' H' s'/\tn i s'.heap/\(∀b∈fp,H' b=none)/\W i n σ' H') ?_ m0 ⟨0,σ,H2,I2,st2,λb hb=>(f2 b hb).1,w0⟩
 rintro n s3 ⟨i,σ3,H3,I3,st3,fr3,w3⟩
 rcases turn i n σ3 H3 w3 with⟨stop,qn⟩|⟨go,N,hN,step⟩
 ·refine wpAny_passesOwn hp (thn (T.done X rfl rfl rfl hc i pins s3 σ3 H3 X.xe I3 (stat fr3) st3 stop) λr s4 ⟨hr,I4⟩=>?_)
  subst hr
  exact wpAny_execs_nil ⟨σ3,H3,I4,qn⟩
 ·refine wpAny_passesOwn hp (thn (T.item X rfl rfl rfl hc i pins s3 σ3 H3 X.xe I3 (stat fr3) st3 go) λr s4 ⟨u,hr,h4⟩=>?_)
  subst hr
  refine wpAny_passesOwn hp (thn h4 λ_ s5 ⟨x,H5,I5,r5,y5,st5,fr5⟩=>?_)
  have I5':=I5.pinned (stat fr5) (T.obj _ _ st5)
  refine wpAny_passesOwn hp (thn (hg _ s5 σ3 H5 x u _ I5' r5 (step x H5 y5)) λ_ s6 ⟨σ6,H6,I6,q6⟩=>?_)
  refine wpAny_passesOwn hp (thn (hb _ s6 σ6 H6 _ I6 q6) λf s7 q7=>?_)
  have again:∀{σ7:St} {H7:Hp},Inv X (pins++pinsAt fp s5.heap) σ7 H7 s7->N σ7 H7->∃m,m<n/\∃i σ' H',Inv X pins σ' H' s7/\tn i s7.heap/\(∀b∈fp,H' b=none)/\W i m σ' H':=λ{σ7 H7} I7 n7=>by
   obtain⟨m',hm,w7⟩:=hN σ7 H7 n7
   refine⟨m',hm,i+1,σ7,H7,I7.unpinned,T.keep _ _ _ st5 λb hb o e=>(I7.pin (b,o) (List.mem_append_right _ (List.mem_append_right _ (q8i hb e)))).1,λb hb=>?_,w7⟩
   obtain⟨o,e,d⟩:=T.obj _ _ st5 b hb
   exact(I7.pin (b,o) (List.mem_append_right _ (List.mem_append_right _ (q8i hb e)))).2.1
  cases f with
  |next=>obtain⟨σ7,H7,I7,n7⟩:=q7;exact again I7 n7
  |cont=>obtain⟨σ7,H7,I7,n7⟩:=q7;exact again I7 n7
  |brk=>obtain⟨σ7,H7,I7,q7⟩:=q7;exact⟨σ7,H7,I7.unpinned,q7⟩
  |ret v=>obtain⟨x7,σ7,H7,I7,r7,q7⟩:=q7;exact⟨x7,σ7,H7,I7.unpinned,r7,q7⟩
end
theorem q5g{K:PySem.W.Frag}{a:Addr}{xs:List V}{g:TG}{tb:TS}{D:Ends}{σ:St}{H:Hp}(Pv:Nat->St->Hp->Prop)(h0:Pv 0 σ H)(hl:∀i σ H,i<=xs.length->Pv i σ H->SqL K H a xs)
  (hs:∀i x σ H,xs[i]? =some x->Pv i σ H->g x σ H λσ2 H2=>tb { D with nx:=Pv (i+1),ct:=Pv (i+1),bk:=D.nx } σ2 H2) (hd:∀ σ H,Pv xs.length σ H->D.nx σ H) :
  ∃W:Nat->Nat->St->Hp->Prop,(∃m,W 0 m σ H)/\∀i m σ H,W i m σ H →
   ((Itl K a).stop i H/\D.nx σ H)\/((Itl K a).go i H/\∃N:St->Hp->Prop,(∀ σ' H',N σ' H'->∃m',m'<m/\W (i+1) m' σ' H')/\∀x H',(Itl K a).yld i H x H'->g x σ H' λσ2 H2=>tb { D with nx:=N,ct:=N,bk:=D.nx } σ2 H2):=by
 refine⟨λi m σ H=>m=xs.length-i/\i<=xs.length/\Pv i σ H,⟨xs.length,by simp,Nat.zero_le _,h0⟩,?_⟩
 rintro i m σ H ⟨rfl,hi,p⟩
 have q:=hl i σ H hi p
 by_cases hlt:i<xs.length
 ·refine .inr ⟨⟨xs,xs[i],q,by simp[hlt]⟩,Pv (i+1),λσ' H' p'=>⟨xs.length-(i+1),by omega,rfl,hlt,p'⟩,λx H' y=>?_⟩
  obtain⟨e,y⟩:=y
  subst e
  exact hs i x σ _ (y xs q) p
 ·have e:i=xs.length:=by omega
  subst e
  exact .inl ⟨⟨xs,q,Nat.le_refl _⟩,hd σ H p⟩
theorem q2w{lo:Int}{n:Nat}{g:TG}{tb:TS}{D:Ends}{σ:St}{H:Hp}(Pv:Nat->St->Hp->Prop)(h0:Pv 0 σ H)
  (hs:∀i σ H,i<n->Pv i σ H->g (.int (lo+i)) σ H λσ2 H2=>tb { D with nx:=Pv (i+1),ct:=Pv (i+1),bk:=D.nx } σ2 H2) (hd:∀ σ H,Pv n σ H->D.nx σ H) :
  ∃W:Nat->Nat->St->Hp->Prop,(∃m,W 0 m σ H)/\∀i m σ H,W i m σ H →
   ((Itr lo n).stop i H/\D.nx σ H)\/((Itr lo n).go i H/\∃N:St->Hp->Prop,(∀ σ' H',N σ' H'->∃m',m'<m/\W (i+1) m' σ' H')/\∀x H',(Itr lo n).yld i H x H'->g x σ H' λσ2 H2=>tb { D with nx:=N,ct:=N,bk:=D.nx } σ2 H2):=by
 refine⟨λi m σ H=>m=n-i/\i<=n/\Pv i σ H,⟨n,by simp,Nat.zero_le _,h0⟩,?_⟩
 rintro i m σ H ⟨rfl,hi,p⟩
 by_cases hlt:i<n
 ·refine .inr ⟨hlt,Pv (i+1),λσ' H' p'=>⟨n-(i+1),by omega,rfl,hlt,p'⟩,λx H' y=>?_⟩
  obtain⟨e,y⟩:=y
  subst e y
  exact hs i σ _ hlt p
 ·have e:i=n:=by omega
  subst e
  exact .inl ⟨Nat.le_refl _,hd σ H p⟩
end L2
namespace L2
open PySem PySem.Spec PyProof.Rows
abbrev R2:=V->V->Hp->VK->Prop
def OpR(X:Cx)(f:Value->Value->Sem Value)(r:R2):Prop :=
 ∀(pins:List (Addr×Obj)) (s:Shared) (σ:St) (H:Hp) (x y:V) (v u:Value) (Q:VK),Inv X pins σ H s->RelV x v->RelV y u->r x y H Q →
  wpAny (model X.prog X.w) X.A (f v u) (EP X pins σ Q) X.xe s
def UnR(X:Cx)(f:Value->Sem Value)(r:V->Hp->VK->Prop):Prop :=
 ∀(pins:List (Addr×Obj)) (s:Shared) (σ:St) (H:Hp) (x:V) (v:Value) (Q:VK),Inv X pins σ H s->RelV x v->r x H Q →
  wpAny (model X.prog X.w) X.A (f v) (EP X pins σ Q) X.xe s
def z0w(X:Cx)(f:Value)(r:List V->Hp->VK->Prop):Prop :=
 ∀(pins:List (Addr×Obj)) (s:Shared) (σ:St) (H:Hp) (xs:List V) (us:List Value) (Q:VK),Inv X pins σ H s->Vals xs us->r xs H Q →
  wpAny (model X.prog X.w) X.A (call f us) (EP X pins σ Q) X.xe s
def tOp(r:R2)(ta tb:TE):TE:=λσ H Q=>ta σ H λx H1=>tb σ H1 λy H2=>r x y H2 Q
def tUn(r:V->Hp->VK->Prop)(ta:TE):TE:=λσ H Q=>ta σ H λx H1=>r x H1 Q
def rI(C:Int->Int->Prop)(g:Int->Int->V):R2:=λx y H Q=>∃i j,x= .int i/\y= .int j/\C i j/\Q (g i j) H
def rI0(g:Int->Int->V):R2:=λx y H Q=>∃i j,x= .int i/\y= .int j/\Q (g i j) H
def rU(g:Int->V):V->Hp->VK->Prop:=λx H Q=>∃i,x= .int i/\Q (g i) H
section
variable{X:Cx}{a b c:Expr}{ta tb tc:TE}{pos:Pos}
theorem binT(ha:PE X a ta)(hb:PE X b tb){pins:List (Addr×Obj)}{s:Shared}{σ:St}{H:Hp}{R:V->V->Hp->Prop}(I:Inv X pins σ H s)
  (h:ta σ H λx H1=>tb σ H1 λy H2=>R x y H2) {Q:Value->Shared->Prop} {f:Value->Value->Sem Value}
  (hf:∀v u s2 x y H2,Inv X pins σ H2 s2->RelV x v->RelV y u->R x y H2->wpAny (model X.prog X.w) X.A (f v u) Q X.xe s2) :
  wpAny (model X.prog X.w) X.A (eval a X.env) (λv s₁=>wpAny (model X.prog X.w) X.A (eval b X.env) (λu s₂=>wpAny (model X.prog X.w) X.A (f v u) Q X.xe s₂) X.xe s₁) X.xe s:=by
 refine thn (ha pins s σ H _ I h) λv s1 ⟨x,H1,I1,r1,q1⟩=>?_
 refine thn (hb pins s1 σ H1 _ I1 q1) λu s2 ⟨y,H2,I2,r2,q2⟩=>?_
 exact hf v u s2 x y H2 I2 r1 r2 q2
theorem q0p{op:Operator}{r:R2}(ho:OpR X (binaryOp op) r)(ha:PE X a ta)(hb:PE X b tb):PE X (.BinOp a op b pos) (tOp r ta tb):=by
 intro pins s σ H Q I h
 exact wpAny_BinOp (binT ha hb I h λv u s2 x y H2 I2 rx ry q=>ho pins s2 σ H2 x y v u Q I2 rx ry q)
theorem pe_un{op:UnaryOp}{r:V->Hp->VK->Prop}(ho:UnR X (unaryOp op) r)(ha:PE X a ta):PE X (.UnaryOp op a pos) (tUn r ta):=by
 intro pins s σ H Q I h
 exact UnaryOp_ (thn (ha pins s σ H _ I h) λv s1 ⟨x,H1,I1,r1,q1⟩=>ho pins s1 σ H1 x v Q I1 r1 q1)
theorem opI{f:Value->Value->Sem Value}{C:Int->Int->Prop}{g:Int->Int->Int}
  (rule:∀(i j:Int) (t u:Tok) (s:Shared) (Q:Value->Shared->Prop) (E:Value->Shared->Prop),C i j->Q (.int (g i j) s.toks) { s with toks:=s.toks+1 }->wpAny (model X.prog X.w) X.A (f (.int i t) (.int j u)) Q E s) :
  OpR X f (rI C λi j=>.int (g i j)):=by
 intro pins s σ H x y v u Q I rx ry h
 obtain⟨i,j,rfl,rfl,hc,q⟩:=h
 obtain⟨t,rfl⟩:=rx
 obtain⟨t',rfl⟩:=ry
 exact rule i j t t' s _ _ hc ⟨.int (g i j),H,I.tok _,⟨_,rfl⟩,q⟩
theorem opI0{f:Value->Value->Sem Value}{g:Int->Int->Int}
  (rule:∀(i j:Int) (t u:Tok) (s:Shared) (Q:Value->Shared->Prop) (E:Value->Shared->Prop),Q (.int (g i j) s.toks) { s with toks:=s.toks+1 }->wpAny (model X.prog X.w) X.A (f (.int i t) (.int j u)) Q E s) :
  OpR X f (rI0 λi j=>.int (g i j)):=by
 intro pins s σ H x y v u Q I rx ry h
 obtain⟨i,j,rfl,rfl,q⟩:=h
 obtain⟨t,rfl⟩:=rx
 obtain⟨t',rfl⟩:=ry
 exact rule i j t t' s _ _ ⟨.int (g i j),H,I.tok _,⟨_,rfl⟩,q⟩
theorem opB0{f:Value->Value->Sem Value}{g:Int->Int->Bool}
  (rule:∀(i j:Int) (t u:Tok) (s:Shared) (Q:Value->Shared->Prop) (E:Value->Shared->Prop),Q (.bool (g i j)) s->wpAny (model X.prog X.w) X.A (f (.int i t) (.int j u)) Q E s) :
  OpR X f (rI0 λi j=>.bl (g i j)):=by
 intro pins s σ H x y v u Q I rx ry h
 obtain⟨i,j,rfl,rfl,q⟩:=h
 obtain⟨t,rfl⟩:=rx
 obtain⟨t',rfl⟩:=ry
 exact rule i j t t' s _ _ ⟨.bl (g i j),H,I,rfl,q⟩
def CDiv(i j:Int):Prop:=0<j/\j<1073741824
def CPow(i j:Int):Prop:=0<=j/\j<=1000000/\i.natAbs<2 ^ 64
def CMul(i j:Int):Prop:=(-(2 ^ 64)<i/\i<2 ^ 64)\/(-(2 ^ 64)<j/\j<2 ^ 64)
theorem CMul.ok{i j:Int}(h:CMul i j):IntMulOk i j:=by
 rcases h with⟨h1,h2⟩|⟨h1,h2⟩
 ·exact .of_left (intBits_le_64 h1 h2)
 ·exact .of_right (intBits_le_64 h1 h2)
theorem q1j:OpR X (binaryOp .Add) (rI0 λi j=>.int (i+j)):=opI0 λ_ _ _ _ _ _ _ q=>add_int q
theorem op_sub:OpR X (binaryOp .Sub) (rI0 λi j=>.int (i-j)):=opI0 λ_ _ _ _ _ _ _ q=>sub_int q
theorem q7w:OpR X (binaryOp .Mult) (rI CMul λi j=>.int (i*j)):=opI λ_ _ _ _ _ _ _ hc q=>mul_int q hc.ok
theorem q2u:OpR X (binaryOp .FloorDiv) (rI CDiv λi j=>.int (i / j)):=opI λi j _ _ _ _ _ hc q=>by
 have h1:(0:Int)<j:=hc.1
 have h2:j<1073741824:=hc.2
 exact floordiv_int (by omega) (by rw[Int.fdiv_eq_ediv_of_nonneg i (by omega)];exact q) (.inl (PyProof.noPylong_small (by omega)))
theorem q2l:OpR X (binaryOp .Mod) (rI (λ_ j=>0<j) λi j=>.int (i % j)):=opI λi j _ _ _ _ _ hc q=>by
 have h1:(0:Int)<j:=hc
 exact mod_int' (by omega) (by rw[Int.fmod_eq_emod_of_nonneg i (by omega)];exact q)
theorem op_pow:OpR X (binaryOp .Pow) (rI CPow λi j=>.int (i ^ j.toNat)):=opI λ_ _ _ _ _ _ _ hc q=>pow_int_small hc.1 hc.2.1 hc.2.2 q
theorem unI{f:Value->Sem Value}{g:Int->Int}
  (rule:∀(i:Int) (t:Tok) (s:Shared) (Q:Value->Shared->Prop) (E:Value->Shared->Prop),Q (.int (g i) s.toks) { s with toks:=s.toks+1 }->wpAny (model X.prog X.w) X.A (f (.int i t)) Q E s) :
  UnR X f (rU λi=>.int (g i)):=by
 intro pins s σ H x v Q I rx h
 obtain⟨i,rfl,q⟩:=h
 obtain⟨t,rfl⟩:=rx
 exact rule i t s _ _ ⟨.int (g i),H,I.tok _,⟨_,rfl⟩,q⟩
theorem z2d:UnR X (unaryOp .USub) (rU λi=>.int (-i)):=unI λ_ _ _ _ _ q=>neg_int q
end
def scal:V->V->Bool
 | .non,.non=>true| .non,.int _=>true| .int _,.non=>true| .non,.bl _=>true| .bl _,.non=>true| .non,.str _=>true| .str _,.non=>true
 | .int _,.int _=>true| .bl _,.bl _=>true| .str _,.str _=>true| .byt _,.byt _=>true
 | .int _,.str _=>true| .str _,.int _=>true| .bl _,.str _=>true| .str _,.bl _=>true
 |_,_=>false
def rEq:R2:=λx y H Q=>scal x y=true/\Q (.bl (decide (x=y))) H
def rNe:R2:=λx y H Q=>scal x y=true/\Q (.bl (!decide (x=y))) H
theorem z0t{i j:Int}:decide (V.int i=V.int j)=(i==j):=by
 rw[Bool.eq_iff_iff]
 simp
theorem dec_bl{i j:Bool}:decide (V.bl i=V.bl j)=(i==j):=by
 rw[Bool.eq_iff_iff]
 simp
theorem dec_str{i j:Str}:decide (V.str i=V.str j)=(i==j):=by
 rw[Bool.eq_iff_iff]
 simp
theorem dec_byt{i j:Array UInt8}:decide (V.byt i=V.byt j)=(i.toList==j.toList):=by
 rw[Bool.eq_iff_iff]
 cases i
 cases j
 simp
section
variable{X:Cx}{a b c:Expr}{ta tb tc:TE}{pos:Pos}
theorem q1w{pins:List (Addr×Obj)}{σ:St}{H:Hp}{s:Shared}{Q:VK}{k k':Bool}(I:Inv X pins σ H s)(q:Q (.bl k) H)(e:k=k'):EP X pins σ Q (.bool k') s:=by
 subst e
 exact⟨.bl k,H,I,rfl,q⟩
theorem q7c:OpR X (compareOp .Eq) rEq:=by
 intro pins s σ H x y v u Q I rx ry h
 obtain⟨hs,q⟩:=h
 cases x with
 |non =>
  cases rx
  cases y with
  |non=>cases ry;exact PySem.EqNone.eq_none_none (q1w I q (by simp))
  |bl j=>cases ry;exact PySem.EqNone.eq_none_bool (q1w I q (by simp))
  |int j=>obtain⟨t',rfl⟩:=ry;exact PySem.EqNone.eq_none_int (q1w I q (by simp))
  |str j=>obtain⟨t',rfl⟩:=ry;exact PySem.EqNone.eq_none_str (q1w I q (by simp))
  |_=>exact absurd (show false=true from hs) Bool.false_ne_true
 |bl i =>
  cases rx
  cases y with
  |non=>cases ry;exact PySem.EqNone.eq_bool_none (q1w I q (by simp))
  |bl j=>cases ry;exact eq_bool (q1w I q dec_bl)
  |str j=>obtain⟨t',rfl⟩:=ry;exact PySem.EqMixed.eq_bool_str (q1w I q (by simp))
  |_=>exact absurd (show false=true from hs) Bool.false_ne_true
 |int i =>
  obtain⟨t,rfl⟩:=rx
  cases y with
  |non=>cases ry;exact PySem.EqNone.eq_int_none (q1w I q (by simp))
  |int j=>obtain⟨t',rfl⟩:=ry;exact eq_int (q1w I q z0t)
  |str j=>obtain⟨t',rfl⟩:=ry;exact PySem.EqMixed.eq_int_str (q1w I q (by simp))
  |_=>exact absurd (show false=true from hs) Bool.false_ne_true
 |str i =>
  obtain⟨t,rfl⟩:=rx
  cases y with
  |non=>cases ry;exact PySem.EqNone.eq_str_none (q1w I q (by simp))
  |bl j=>cases ry;exact PySem.EqMixed.eq_str_bool (q1w I q (by simp))
  |int j=>obtain⟨t',rfl⟩:=ry;exact PySem.EqMixed.eq_str_int (q1w I q (by simp))
  |str j=>obtain⟨t',rfl⟩:=ry;exact eq_str (q1w I q dec_str)
  |_=>exact absurd (show false=true from hs) Bool.false_ne_true
 |byt i =>
  obtain⟨t,rfl⟩:=rx
  cases y with
  |byt j=>obtain⟨t',rfl⟩:=ry;exact PySem.W.eq_bytes (q1w I q dec_byt)
  |_=>exact absurd (show false=true from hs) Bool.false_ne_true
 |_=>cases y<;>exact absurd (show false=true from hs) Bool.false_ne_true
theorem z5g:OpR X (compareOp .NotEq) rNe:=by
 intro pins s σ H x y v u Q I rx ry h
 obtain⟨hs,q⟩:=h
 cases x with
 |non =>
  cases rx
  cases y with
  |non=>cases ry;exact PySem.EqNone.ne_none_none (q1w I q (by simp))
  |bl j=>cases ry;exact PySem.EqNone.ne_none_bool (q1w I q (by simp))
  |int j=>obtain⟨t',rfl⟩:=ry;exact PySem.EqNone.ne_none_int (q1w I q (by simp))
  |str j=>obtain⟨t',rfl⟩:=ry;exact PySem.EqNone.ne_none_str (q1w I q (by simp))
  |_=>exact absurd (show false=true from hs) Bool.false_ne_true
 |bl i =>
  cases rx
  cases y with
  |non=>cases ry;exact PySem.EqNone.ne_bool_none (q1w I q (by simp))
  |bl j=>cases ry;exact ne_bool (q1w I q (congrArg not dec_bl))
  |str j=>obtain⟨t',rfl⟩:=ry;exact PySem.EqMixed.ne_bool_str (q1w I q (by simp))
  |_=>exact absurd (show false=true from hs) Bool.false_ne_true
 |int i =>
  obtain⟨t,rfl⟩:=rx
  cases y with
  |non=>cases ry;exact PySem.EqNone.ne_int_none (q1w I q (by simp))
  |int j=>obtain⟨t',rfl⟩:=ry;exact ne_int (q1w I q (congrArg not z0t))
  |str j=>obtain⟨t',rfl⟩:=ry;exact PySem.EqMixed.ne_int_str (q1w I q (by simp))
  |_=>exact absurd (show false=true from hs) Bool.false_ne_true
 |str i =>
  obtain⟨t,rfl⟩:=rx
  cases y with
  |non=>cases ry;exact PySem.EqNone.ne_str_none (q1w I q (by simp))
  |bl j=>cases ry;exact PySem.EqMixed.ne_str_bool (q1w I q (by simp))
  |int j=>obtain⟨t',rfl⟩:=ry;exact PySem.EqMixed.ne_str_int (q1w I q (by simp))
  |str j=>obtain⟨t',rfl⟩:=ry;exact ne_str (q1w I q (congrArg not dec_str))
  |_=>exact absurd (show false=true from hs) Bool.false_ne_true
 |byt i =>
  obtain⟨t,rfl⟩:=rx
  cases y with
  |byt j=>obtain⟨t',rfl⟩:=ry;exact PySem.W.ne_bytes (q1w I q (congrArg not dec_byt))
  |_=>exact absurd (show false=true from hs) Bool.false_ne_true
 |_=>cases y<;>exact absurd (show false=true from hs) Bool.false_ne_true
theorem op_lt:OpR X (compareOp .Lt) (rI0 λi j=>.bl (decide (i<j))):=opB0 λ_ _ _ _ _ _ _ q=>lt_int q
theorem op_le:OpR X (compareOp .LtE) (rI0 λi j=>.bl (decide (i<=j))):=opB0 λ_ _ _ _ _ _ _ q=>le_int q
theorem op_gt:OpR X (compareOp .Gt) (rI0 λi j=>.bl (decide (j<i))):=opB0 λ_ _ _ _ _ _ _ q=>gt_int q
theorem q1e(b:Expr){op:CmpOp}(h:op≠ .In:=by decide)(h2:op≠ .NotIn:=by decide):behindInMarks op b=false:=by
 have e1:(op==CmpOp.In)=false:=by cases op<;>first|rfl|exact absurd rfl h
 have e2:(op==CmpOp.NotIn)=false:=by cases op<;>first|rfl|exact absurd rfl h2
 cases b<;>simp[behindInMarks,e1,e2]
theorem z5e{op:CmpOp}{r:R2}(ho:OpR X (compareOp op) r)(ha:PE X a ta)(hb:PE X b tb)(hm:behindInMarks op b=false):PE X (.Compare a [op] [b] pos) (tOp r ta tb):=by
 intro pins s σ H Q I h
 exact wpAny_Compare1 (binT ha hb I h λv u s2 x y H2 I2 rx ry q=>ho pins s2 σ H2 x y v u Q I2 rx ry q) hm
def tTest(t:TE):TT:=λσ H Q=>t σ H λx H'=>∃k,x= .bl k/\Q k H'
theorem q0v{op:CmpOp}{r:R2}(ho:OpR X (compareOp op) r)(ha:PE X a ta)(hb:PE X b tb)(hm:behindInMarks op b=false):PT X (.Compare a [op] [b] pos) (tTest (tOp r ta tb)):=by
 intro pins s σ H Q I h
 refine wpAny_isTrue_Compare1 (thn (ha pins s σ H _ I h) λv s1 ⟨x,H1,I1,r1,q1⟩=>thn (hb pins s1 σ H1 _ I1 q1) λu s2 ⟨y,H2,I2,r2,q2⟩ =>
  thn (ho pins s2 σ H2 x y v u _ I2 r1 r2 q2) λc s3 ⟨z,H3,I3,r3,k,e,q3⟩=>?_) hm
 subst e
 cases r3
 exact wpAny_truthy_bool ⟨H3,I3,q3⟩
def tChain(r r':R2)(ta tb tc:TE):TE:=λσ H Q=>ta σ H λx H1=>tb σ H1 λy H2=>r x y H2 λz H3=>∃k,z= .bl k ∧
 (if k=true then tc σ H3 λw' H4=>r' y w' H4 Q else Q (.bl false) H3)
theorem pe_chain{op op':CmpOp}{r r':R2}(ho:OpR X (compareOp op) r)(ho':OpR X (compareOp op') r')(ha:PE X a ta)(hb:PE X b tb)(hc:PE X c tc)
  (hm:lastMarks [op,op'] [b,c]=false:=by with_unfolding_all rfl):PE X (.Compare a [op,op'] [b,c] pos) (tChain r r' ta tb tc):=by
 intro pins s σ H Q I h
 refine Compare_chain (thn (ha pins s σ H _ I h) λv s1 ⟨x,H1,I1,r1,q1⟩=>chain_link (thn (hb pins s1 σ H1 _ I1 q1) λu s2 ⟨y,H2,I2,r2,q2⟩ =>
  thn (ho pins s2 σ H2 x y v u _ I2 r1 r2 q2) λd s3 ⟨z,H3,I3,r3,k,e,q3⟩=>?_)) hm
 subst e
 cases r3
 refine wpAny_truthy_bool ?_
 cases k with
 |false=>exact ite_ff ⟨.bl false,H3,I3,rfl,q3⟩
 |true=>exact ite_tt (chain_last (thn (hc pins s3 σ H3 _ I3 q3) λw' s4 ⟨z',H4,I4,r4,q4⟩=>ho' pins s4 σ H4 y z' u w' Q I4 r2 r4 q4))
theorem line63:(sizeLine:Nat)<2 ^ 63:=by rw[sizeLine_eq];decide
theorem q4f:OpR X (binaryOp .Add) (λx y H Q=>∃i j,x= .str i/\y= .str j/\i.length+j.length<=sizeLine/\Q (.str (i++j)) H):=by
 intro pins s σ H x y v u Q I rx ry h
 obtain⟨i,j,rfl,rfl,hz,q⟩:=h
 obtain⟨t,rfl⟩:=rx
 obtain⟨t',rfl⟩:=ry
 exact TK.wpAny_up (Nat.le_refl _) (add_str (λt' tk hup=>⟨.str (i++j),H,I.tok _,⟨_,rfl⟩,q⟩) hz)
theorem z2c{x:V}{us:List Value}(r:Vals [x] us):∃u,us=[u]/\RelV x u:=by
 cases r with
 |cons r1 r2=>cases r2;exact⟨_,rfl,r1⟩
theorem vals2{x y:V}{us:List Value}(r:Vals [x,y] us):∃u w',us=[u,w']/\RelV x u/\RelV y w':=by
 cases r with
 |cons r1 r2 =>
  cases r2 with
  |cons r3 r4=>cases r4;exact⟨_,_,rfl,r1,r3⟩
theorem call_abs:z0w X (.builtin "abs") (λxs H Q=>∃i,xs=[.int i]/\Q (.int (if i<0 then -i else i)) H):=by
 intro pins s σ H xs us Q I r h
 obtain⟨i,rfl,q⟩:=h
 obtain⟨u,rfl,t,rfl⟩:=z2c r
 exact TK.wpAny_up (Nat.le_refl _) (call_abs_int λu tk hup=>⟨.int (if i<0 then -i else i),H,I.tok _,⟨_,rfl⟩,q⟩)
theorem call_min2(hc:X.calm=true):z0w X (.builtin "min") (λxs H Q=>∃i j,xs=[.int i,.int j]/\Q (.int (if j<i then j else i)) H):=by
 intro pins s σ H xs us Q I r h
 obtain⟨i,j,rfl,q⟩:=h
 obtain⟨u,w',rfl,⟨t,rfl⟩,⟨t',rfl⟩⟩:=vals2 r
 refine TK.wpAny_up (Nat.le_refl _) (min_two_ints (I.ok.hd hc) λh' tk k hup=>⟨_,H,I.kept k,?_,q⟩)
 by_cases hj:j<i
 ·rw[if_pos hj,if_pos hj];exact⟨_,rfl⟩
 ·rw[if_neg hj,if_neg hj];exact⟨_,rfl⟩
theorem call_ord:z0w X (.builtin "ord") (λxs H Q=>∃x,xs=[.str x]/\x.length=1/\Q (.int (x.cps.getD 0 0:Nat)) H):=by
 intro pins s σ H xs us Q I r h
 obtain⟨x,rfl,hz,q⟩:=h
 obtain⟨u,rfl,t,rfl⟩:=z2c r
 exact ord_of_one hz ⟨.int _,H,I.tok _,⟨_,rfl⟩,q⟩
def LenV(K:PySem.W.Frag)(x:V)(H:Hp)(n:Nat):Prop :=
 match x with
 | .str y=>y.length<=sizeLine/\n=y.length
 | .byt y=>y.size<=sizeLine/\n=y.size
 | .ref p=>(∃xs,SqL K H p xs/\n=xs.length)\/∃xs,SqT K H p xs/\n=xs.length
 |_=>False
theorem q0l:z0w X (.builtin "len") (λxs H Q=>∃x n,xs=[x]/\LenV X.K x H n/\Q (.int n) H):=by
 intro pins s σ H xs us Q I r h
 obtain⟨x,n,rfl,e,q⟩:=h
 obtain⟨u,rfl,rx⟩:=z2c r
 have hl:=line63
 have hs:sizeLine=16777216:=sizeLine_eq
 cases x with
 |str y =>
  obtain⟨t,rfl⟩:=rx
  obtain⟨hy,e'⟩:y.length<=sizeLine/\n=y.length:=e
  subst e'
  exact len_str (by omega) ⟨.int _,H,I.tok _,⟨_,rfl⟩,q⟩
 |byt y =>
  obtain⟨t,rfl⟩:=rx
  obtain⟨hy,e'⟩:y.size<=sizeLine/\n=y.size:=e
  subst e'
  exact PySem.W.len_bytes (by omega) ⟨.int _,H,I.tok _,⟨_,rfl⟩,q⟩
 |ref p =>
  cases rx
  have e':(∃xs,SqL X.K H p xs/\n=xs.length)\/∃xs,SqT X.K H p xs/\n=xs.length:=e
  rcases e' with⟨xs,hx,e'⟩|⟨xs,hx,e'⟩
  ·subst e'
   obtain⟨its,r',pl,hz⟩:=I.list hx
   have hlen:=r'.length
   exact Calls.call_len_list pl.isList (by simp only[List.size_toArray];omega) ⟨.int xs.length,H,I.tok _,⟨_,by simp only[List.size_toArray];rw[hlen]⟩,q⟩
  ·subst e'
   obtain⟨its,r',pl,hz⟩:=I.tuple hx
   have hlen:=r'.length
   exact len_tuple pl (by simp only[List.size_toArray];omega) ⟨.int xs.length,H,I.tok _,⟨_,by simp only[List.size_toArray];rw[hlen]⟩,q⟩
 |_=>exact(show False from e).elim
end
end L2
namespace L2
open PySem PySem.Spec PyProof.Rows
structure ObjM(h:Heap)(x dx C:Addr)(mA:Str->Option Value):Prop where
 obj:h.get? x=some (PySem.W.instObj C dx)
 ns:h.Ns1 dx mA
 ne:dx≠x
theorem z2x{h:Heap}{dx:Addr}{mA:Str->Option Value}(n:h.Ns1 dx mA):∃od,h.get? dx=some od/\∀name,PySem.W.lookIn name od=some (mA name):=by
 obtain⟨o,es,ep,ho,hd,hk,_,hm⟩:=n
 refine⟨o,ho,λname=>?_⟩
 have e:=hm name
 unfold nsFind findBy at e
 rw[←Array.find?_toList]at e
 unfold PySem.W.lookIn
 rw[hd]
 dsimp only
 split
 ·rename_i y q
  rw[q]at e
  exact congrArg some e
 ·rename_i q
  rw[q]at e
  have a:es.toList.any (·.refKey)=false:=by
   rw[List.any_eq_false]
   intro y hy
   obtain⟨z,t,hkey⟩:=hk y (Array.mem_toList_iff.mp hy)
   simp[DictEntry.refKey,hkey]
  have a':¬es.toList.any (·.refKey)=true:=by rw[a];exact Bool.false_ne_true
  rw[if_neg a']
  exact congrArg some e
theorem ObjM.look{h:Heap}{x dx C:Addr}{mA:Str->Option Value}(I:ObjM h x dx C mA):∃od,PySem.W.InstAt h x (PySem.W.instObj C dx) C (some od)/\∀name,PySem.W.lookIn name od=some (mA name) :=
 let ⟨od,ho,hl⟩:=z2x I.ns
 ⟨od,⟨I.obj,rfl,rfl,ho⟩,hl⟩
section
variable{prog:Program}{w:World}{A:Around}{E:Value->Shared->Prop}{s:Shared}{K:PySem.W.Frag}{x dx C f:Addr}{mA:Str->Option Value}{name:Str}{v:Value}
theorem get_map{expr:Bool}{Q:Value->Shared->Prop}(X:K.In s.heap)(I:ObjM s.heap x dx C mA)(hg:PySem.W.plainGet K C name=true)(hh:PySem.W.hasDictIn K C=true)
  (ha:PySem.W.findIn K (.ref C) name=some none) (hv:mA name=some v) (hv':PySem.W.handedIn v=true) (h:Q v { s with toks:=s.toks+1 }) :
  wpAny (model prog w) A (getAttr (.ref x) name expr) Q E s:=by
 obtain⟨od,J,hl⟩:=I.look
 exact PySem.W.get_value X J (PySem.W.plainGet_of hg).1 (PySem.W.findObj_own hh ha rfl (by rw[hl,hv])) hv' h
theorem set_map{ns:List Str}{Q:Unit->Shared->Prop}(X:K.In s.heap)(I:ObjM s.heap x dx C mA)
  (hs:PySem.W.findIn K (.ref C) "__setattr__" =some (some (.builtin "object.__setattr__"))) (hp:PySem.W.plainOver K C=true) (ht:PySem.W.takerIn K C name=some none) (hh:PySem.W.hasDictIn K C=true)
  (hw:PySem.Within mA ns) (hsz:ns.length<=sizeLine)
  (h:∀h',ObjM h' x dx C (λy=>if y=name then some v else mA y)->Heap.SameBut dx s.heap h'->Q () { s with heap:=h',toks:=s.toks+2 }) :
  wpAny (model prog w) A (setAttr (.ref x) name v) Q E s:=by
 obtain⟨od,J,hl⟩:=I.look
 refine PySem.W.set_plain X J hs (PySem.W.osa_open (s:={ s with toks:=s.toks+1 }) (r:=none) X J hp ht λb=>?_)
 obtain⟨cd,hc,hd'⟩:=PySem.W.any_some hh
 have hx:s.heap.get? x=some ⟨.ref C,some dx,.plain,#[]⟩:=I.obj
 refine wpAny_bind (wpAny_pure (wpAny_bind (wpAny_bind (wpAny_loadPart hx (wpAny_bind (PySem.W.Looks.here (s:={ s with toks:=s.toks+1 }) (PySem.W.looks_clsIn X hc) ?_))))))
 rw[hd']
 refine wpAny_pure (a:=some dx) (wpAny_bind (wpAny_pure (wpAny_bind ?_)))
 refine wpAny_nsSet1 (s:={ s with toks:=s.toks+1 }) I.ns λh' hn2 hs2=>?_
 obtain⟨oD,esD,epD,hoD,hdD,hcD⟩:=hn2.count (PySem.Within.cons name v hw)
 refine wpAny_bind (wpAny_lookBehind hoD (by rw[hdD];exact pastItsLine_dict (Nat.le_trans hcD (by rw[List.length_cons];omega))) ?_)
 exact wpAny_pure (h _ ⟨(hs2.2 _ (Ne.symm I.ne)).trans I.obj,hn2,I.ne⟩ hs2)
theorem make_map{R:Result->Shared->Prop}{vs:List Value}{kw:List (Str×Value)}(X:K.In s.heap)(hm:PySem.W.makesIn K C=true)
  (hi:PySem.W.findIn K (.ref C) "__init__" =some (some (.ref f))) (hf:PySem.W.typeIn K (.ref f)=some (.type "function"))
  (h:codeAny (model prog w) (A.under (.builtin "type.__call__" ⟨.ref C::vs,kw⟩)) (.call (.ref f) ⟨.ref (s.heap.objs.size+1)::vs,kw⟩) (PySem.W.InitBack (s.heap.objs.size+1) R)
   { s with heap:=(s.heap.push PySem.W.emptyDict).push (PySem.W.instObj C s.heap.objs.size) }) :
  codeAny (model prog w) A (.call (.ref C) ⟨vs,kw⟩) R s:=by
 obtain⟨hh,g,d,t,os⟩:=s
 exact PySem.W.make_core (PySem.W.makes_of X hm) (PySem.W.looks_findIn X hi) (λself=>PySem.W.bind_fn X self hf) (.inl rfl) h
end
def q1b(f:Str)(v:V):List (Str×V)->List (Str×V)
 |[]=>[(f,v)]
 |(g,x)::r=>if g=f then(g,v)::r else(g,x)::q1b f v r
theorem q0f(f g:Str)(v:V):∀fs:List (Str×V),(q1b f v fs).lookup g=if g=f then some v else fs.lookup g
 |[]=>by
  show List.lookup g [(f,v)]=_
  by_cases h:g=f
  ·have hb:(g==f)=true:=beq_iff_eq.mpr h
   simp only[List.lookup,hb,if_pos h]
  ·have hb:(g==f)=false:=beq_eq_false_iff_ne.mpr h
   simp only[List.lookup,hb,if_neg h]
 |(k,x)::r=>by
  have ih:=q0f f g v r
  rw[show q1b f v ((k,x)::r)=(if k=f then(k,v)::r else(k,x)::q1b f v r) from rfl]
  by_cases hk:k=f
  ·rw[if_pos hk]
   by_cases h:g=k
   ·have hb:(g==k)=true:=beq_iff_eq.mpr h
    simp only[List.lookup,hb,if_pos (h.trans hk)]
   ·have hb:(g==k)=false:=beq_eq_false_iff_ne.mpr h
    simp only[List.lookup,hb,if_neg (λe:g=f=>h (e.trans hk.symm))]
  ·rw[if_neg hk]
   by_cases h:g=k
   ·have hb:(g==k)=true:=beq_iff_eq.mpr h
    simp only[List.lookup,hb,if_neg (λe:g=f=>hk (h.symm.trans e))]
   ·have hb:(g==k)=false:=beq_eq_false_iff_ne.mpr h
    simp only[List.lookup,hb]
    exact ih
theorem q7y(f:Str)(v:V):∀fs:List (Str×V),f∈(q1b f v fs).map (·.1)/\∀g,g∈fs.map (·.1)->g∈(q1b f v fs).map (·.1)
 |[]=>⟨by simp[q1b],λg h=>by simp at h⟩
 |(k,x)::r=>by
  obtain⟨i1,i2⟩:=q7y f v r
  rw[show q1b f v ((k,x)::r)=(if k=f then(k,v)::r else(k,x)::q1b f v r) from rfl]
  by_cases hk:k=f
  ·rw[if_pos hk]
   subst hk
   exact⟨by simp,λg h=>by simpa using h⟩
  ·rw[if_neg hk]
   refine⟨?_,λg h=>?_⟩
   ·rw[List.map_cons]
    exact List.mem_cons_of_mem _ i1
   ·rw[List.map_cons]at h ⊢
    rcases List.mem_cons.mp h with e|e
    ·exact List.mem_cons.mpr (.inl e)
    ·exact List.mem_cons_of_mem _ (i2 g e)
theorem q9a(f:Str)(v:V):∀fs:List (Str×V),(q1b f v fs).length<=fs.length+1
 |[]=>by simp[q1b]
 |(k,x)::r=>by
  have ih:=q9a f v r
  rw[show q1b f v ((k,x)::r)=(if k=f then(k,v)::r else(k,x)::q1b f v r) from rfl]
  by_cases hk:k=f
  ·rw[if_pos hk,List.length_cons,List.length_cons];omega
  ·rw[if_neg hk,List.length_cons,List.length_cons];omega
theorem RelO.some_of{v:V}{o:Option Value}(r:RelO (some v) o):∃u,o=some u/\RelV v u:=by
 cases o with
 |none=>exact(show False from r).elim
 |some u=>exact⟨u,rfl,r⟩
theorem handed_of{v:V}{u:Value}(r:RelV v u):PySem.W.handedIn u=true:=by
 cases v with
 |non=>cases (show u=Value.none from r);rfl
 |bl b=>cases (show u=Value.bool b from r);rfl
 |int i=>obtain⟨t,e⟩:=(show ∃t,u=Value.int i t from r);cases e;rfl
 |str x=>obtain⟨t,e⟩:=(show ∃t,u=Value.str x t from r);cases e;rfl
 |byt b=>obtain⟨t,e⟩:=(show ∃t,u=Value.bytes b t from r);cases e;rfl
 |flt b=>obtain⟨t,e⟩:=(show ∃t,u=Value.float b t from r);cases e;rfl
 |ref a=>cases (show u=Value.ref a from r);rfl
 |ty n=>cases (show u=Value.type n from r);rfl
section
variable{P:Program}{w:World}{H H':Hp}{h h':Heap}{a C dx:Addr}{fs fs':List (Str×V)}
theorem ins_get(hok:HOk P w H h)(e:H a=some (.ins C dx fs)):∃mA,ObjM h a dx C mA/\(∀f,RelO (fs.lookup f) (mA f))/\PySem.Within mA (fs.map (·.1))/\fs.length<=1000/\H dx=some (.own a):=by
 obtain⟨d,z,ne,ob,mA,n,r,q⟩:=(show ObjOk P w H h a (.ins C dx fs) from hok a _ e)
 exact⟨mA,⟨ob,n,ne⟩,r,q,z,d⟩
end
structure Cls(K:PySem.W.Frag)(C:Addr):Prop where
 pg:PySem.W.plainGet K C Str.empty=true
 hd:PySem.W.hasDictIn K C=true
 po:PySem.W.plainOver K C=true
 sa:PySem.W.findIn K (.ref C) "__setattr__" =some (some (.builtin "object.__setattr__"))
theorem Cls.get{K:PySem.W.Frag}{C:Addr}(c:Cls K C)(f:Str):PySem.W.plainGet K C f=true:=c.pg
def NoAttr(K:PySem.W.Frag)(C:Addr)(f:Str):Prop:=PySem.W.findIn K (.ref C) f=some none
theorem NoAttr.taker{K:PySem.W.Frag}{C:Addr}{f:Str}(n:NoAttr K C f):PySem.W.takerIn K C f=some none:=by
 unfold PySem.W.takerIn
 rw[show PySem.W.findIn K (.ref C) f=some none from n]
 rfl
section
variable{X:Cx}{pins:List (Addr×Obj)}{σ:St}{H:Hp}{s:Shared}{a C dx:Addr}{fs:List (Str×V)}{f:Str}{v:V}{A:Around}{E:Value->Shared->Prop}
theorem getattr_ok{b:Bool}{Q:Value->Shared->Prop}(I:Inv X pins σ H s)(e:H a=some (.ins C dx fs))(c:Cls X.K C)(n:NoAttr X.K C f)(l:fs.lookup f=some v)
  (h:∀u s',Inv X pins σ H s'->RelV v u->Q u s'):wpAny (model X.prog X.w) A (getAttr (.ref a) f b) Q E s:=by
 obtain⟨mA,O,r,_,_,_⟩:=ins_get I.hok e
 obtain⟨u,hu,ru⟩:=RelO.some_of (v:=v) (o:=mA f) (by rw[←l];exact r f)
 exact get_map I.kIn O (c.get f) c.hd n hu (handed_of ru) (h u _ (I.tok _) ru)
theorem setattr_ok{y:V}{u:Value}{Q:Unit->Shared->Prop}(I:Inv X pins σ H s)(e:H a=some (.ins C dx fs))(c:Cls X.K C)(n:NoAttr X.K C f)(hl:fs.length<1000)(ry:RelV y u)
  (h:∀s',Inv X pins σ (upd H a (.ins C dx (q1b f y fs))) s'->Q () s'):wpAny (model X.prog X.w) A (setAttr (.ref a) f u) Q E s:=by
 obtain⟨mA,O,r,wi,_,ho⟩:=ins_get I.hok e
 have hz:(fs.map (·.1)).length<=sizeLine:=by rw[List.length_map,sizeLine_eq];omega
 refine set_map I.kIn O c.sa c.po n.taker c.hd wi hz λh' O' sb=>h _ ?_
 have hd:∃o,h'.get? dx=some o:=let ⟨o,_,_,e',_⟩:=O'.ns;⟨o,e'⟩
 refine I.write (x:=a) (e:=dx) (by rw[e];exact True.intro) (.inr ho) (λb q hb z=>(sb.2 b hb).trans z) hd ?_
 refine⟨by rw[upd_ne O.ne];exact ho,?_,O.ne,O'.obj,_,O'.ns,λg=>?_,λg hg=>?_⟩
 ·have:=q9a f y fs;omega
 ·show RelO ((q1b f y fs).lookup g) (if g=f then some u else mA g)
  rw[q0f]
  by_cases q:g=f
  ·rw[if_pos q,if_pos q];exact ry
  ·rw[if_neg q,if_neg q];exact r g
 ·by_cases q:g=f
  ·rw[q];exact(q7y f y fs).1
  ·refine(q7y f y fs).2 g (wi g λz=>hg ?_)
   show(if g=f then some u else mA g)=none
   rw[if_neg q];exact z
theorem Inv.made(I:Inv X pins σ H s):Inv X pins σ (upd (upd H s.heap.objs.size (.own (s.heap.objs.size+1))) (s.heap.objs.size+1) (.ins C s.heap.objs.size []))
  { s with heap:=(s.heap.push PySem.W.emptyDict).push (PySem.W.instObj C s.heap.objs.size) }:=by
 have e1:(s.heap.push PySem.W.emptyDict).get? s.heap.objs.size=some PySem.W.emptyDict:=Heap.get?_push_size s.heap rfl
 have e2:((s.heap.push PySem.W.emptyDict).push (PySem.W.instObj C s.heap.objs.size)).get? (s.heap.objs.size+1)=some (PySem.W.instObj C s.heap.objs.size):=by
  have:=Heap.get?_push_size (s.heap.push PySem.W.emptyDict) (o:=PySem.W.instObj C s.heap.objs.size) rfl
  rwa [Heap.size_push]at this
 have e3:(s.heap.push PySem.W.emptyDict).Ns s.heap.objs.size (λ_=>none):=⟨PySem.W.emptyDict,#[],_,e1,rfl,(λe he=>absurd he (by simp)),λ_=>rfl⟩
 have I1:=I.laid (a:=s.heap.objs.size) (o:=.own (s.heap.objs.size+1)) (h':=s.heap.push PySem.W.emptyDict) (t':=s.toks) (λb u q=>Heap.get?_push_of_some _ q) (Nat.le_refl _) ⟨_,e1⟩
 refine I1.laid (a:=s.heap.objs.size+1) (o:=.ins C s.heap.objs.size []) (t':=s.toks) (λb u q=>Heap.get?_push_of_some _ q) (Nat.le_of_eq (Heap.size_push _ _)) ?_
 have ne:s.heap.objs.size≠s.heap.objs.size+1:=Nat.ne_of_lt (Nat.lt_succ_self _)
 refine⟨by rw[upd_ne ne,upd_same],Nat.zero_le _,ne,e2,λ_=>none,(Heap.Ns1.of_empty e3).at λo q=>Heap.get?_push_of_some _ q,λ_=>True.intro,λy hy=>absurd rfl hy⟩
theorem attr_of{prog:Program}{w:World}{env:Env}{e:Expr}{f:Str}{pos:Pos}{s:Shared}{Q:Value->Shared->Prop}(hb:attributeBase e f env (eval e env)=eval e env)
  (h:wpAny (model prog w) A (eval e env) (λo s₁=>wpAny (model prog w) A (getAttr o f true) Q E s₁) E s):wpAny (model prog w) A (eval (.Attribute e f pos) env) Q E s :=
 Attribute_any_ h (by rw[arm_eval_Attribute,hb])
end
def tFld(K:PySem.W.Frag)(ta:TE)(f:Str):TE:=λσ H Q=>ta σ H λx H1=>∃a C dx fs v,x= .ref a/\H1 a=some (.ins C dx fs)/\Cls K C/\NoAttr K C f/\fs.lookup f=some v/\Q v H1
def sFld(K:PySem.W.Frag)(ta tv:TE)(f:Str):TS:=λD σ H=>tv σ H λy H1=>ta σ H1 λx H2=>∃a C dx fs,x= .ref a/\H2 a=some (.ins C dx fs)/\Cls K C/\NoAttr K C f/\fs.length<1000 ∧
 D.nx σ (upd H2 a (.ins C dx (q1b f y fs)))
section
variable{X:Cx}{o e value:Expr}{f:Str}{pos pos' tpos:Pos}{ta tv:TE}
theorem q1d(he:PE X e ta)(hb:attributeBase e f X.env (eval e X.env)=eval e X.env):PE X (.Attribute e f pos) (tFld X.K ta f):=by
 intro pins s σ H Q I h
 refine attr_of hb (thn (he pins s σ H _ I h) λu s1 ⟨x,H1,I1,rx,a,C,dx,fs,v,ex,ea,c,n,l,q⟩=>?_)
 subst ex
 obtain rfl:u=Value.ref a:=rx
 exact getattr_ok I1 ea c n l λu' s2 I2 ru=>⟨v,H1,I2,ru,q⟩
theorem q4b(ha:PE X o ta)(hv:PE X value tv)(hs:swapsWith value (some (.Attribute o f pos')) pos.line X.env=pure false):PS X (.Assign [.Attribute o f pos'] value pos) (sFld X.K ta tv f):=by
 intro pins s σ H D I h
 refine plainObj_wpAny_Assign_Attribute (thn (hv pins s σ H _ I h) λu s1 ⟨y,H1,I1,ry,q⟩=>thn (ha pins s1 σ H1 _ I1 q) λov s2 ⟨x,H2,I2,rx,a,C,dx,fs,ex,ea,c,n,l,q2⟩=>?_) hs
 subst ex
 obtain rfl:ov=Value.ref a:=rx
 exact setattr_ok I2 ea c n l ry λs3 I3=>⟨σ,_,I3,q2⟩
end
section
variable{X:Cx}{pins:List (Addr×Obj)}{σ:St}{H:Hp}{s:Shared}{A:Around}{E:Value->Shared->Prop}{Q:Value->Shared->Prop}{c:Value}{b:Bool}
inductive TyOf(K:PySem.W.Frag)(H:Hp):V->Value->Prop where
 |non:TyOf K H .non (.type "NoneType")
 |bl (x:Bool):TyOf K H (.bl x) (.type "bool")
 |int (i:Int):TyOf K H (.int i) (.type "int")
 |str (x:Str):TyOf K H (.str x) (.type "str")
 |flt (x:UInt64):TyOf K H (.flt x) (.type "float")
 |lst {a:Addr} {xs:List V} (e:H a=some (.lst xs)):TyOf K H (.ref a) (.type "list")
 |frz {a:Addr} {o:Obj} {xs:List V} (e:H a=some (.frz o (.lst xs))):TyOf K H (.ref a) (.type "list")
 |tup {a:Addr} {xs:List V} (e:H a=some (.tup xs)):TyOf K H (.ref a) (.type "tuple")
 |dK {a:Addr} {kvs:List (Key×V)} (e:H a=some (.dK kvs)):TyOf K H (.ref a) (.type "dict")
 |dT {a:Addr} {kvs:List (List Key×V)} (e:H a=some (.dT kvs)):TyOf K H (.ref a) (.type "dict")
 |ins {a C dx:Addr} {fs:List (Str×V)} (e:H a=some (.ins C dx fs)) (cl:Cls K C) (ha:PySem.W.findIn K (.ref C) "__class__" =some (some (.builtin "object.__class__")))
   (hn:PySem.W.specialIn K (.builtin "object.__class__") "__get__" =some (some (.builtin "getset_descriptor.__get__"))) (htk:PySem.W.takesIn K (.builtin "object.__class__")=some true)
   (hm:PySem.W.mroIn K C (.type "object")=some true):TyOf K H (.ref a) (.ref C)
theorem isinst_ok{x:V}{u t:Value}(I:Inv X pins σ H s)(rx:RelV x u)(ty:TyOf X.K H x t)(e:PySem.W.kitOne X.K t c=some b)(h:∀tk,Q (.bool b) { s with toks:=tk }):
  wpAny (model X.prog X.w) A (call (.builtin "isinstance") [u,c]) Q E s:=by
 cases ty with
 |non=>cases (show u=Value.none from rx);exact PySem.W.kia_one PySem.W.kitx_none I.kIn True.intro e (λz=>nomatch z) h
 |bl y=>cases (show u=Value.bool y from rx);exact PySem.W.kia_one PySem.W.kitx_bool I.kIn True.intro e (λz=>nomatch z) h
 |int i=>obtain⟨t,q⟩:=(show ∃t,u=Value.int i t from rx);cases q;exact PySem.W.kia_one PySem.W.kitx_int I.kIn True.intro e (λz=>nomatch z) h
 |str y=>obtain⟨t,q⟩:=(show ∃t,u=Value.str y t from rx);cases q;exact PySem.W.kia_one PySem.W.kitx_str I.kIn True.intro e (λz=>nomatch z) h
 |flt y=>obtain⟨t,q⟩:=(show ∃t,u=Value.float y t from rx);cases q;exact PySem.W.kia_one PySem.W.kitx_float I.kIn True.intro e (λz=>nomatch z) h
 | @lst a xs ea =>
  cases (show u=Value.ref a from rx)
  obtain⟨_,_,n,_,h1⟩:=(show ObjOk X.prog X.w H s.heap a (.lst xs) from I.hok a _ ea)
  exact PySem.W.kia_one PySem.W.kitx_list I.kIn ⟨_,h1,rfl⟩ e (λz=>nomatch z) h
 | @frz a ob xs ea =>
  cases (show u=Value.ref a from rx)
  obtain⟨_,_,_,n,_,h1⟩:=(show ObjOk X.prog X.w H s.heap a (.frz ob (.lst xs)) from I.hok a _ ea)
  exact PySem.W.kia_one PySem.W.kitx_list I.kIn ⟨_,h1,rfl⟩ e (λz=>nomatch z) h
 | @tup a xs ea =>
  cases (show u=Value.ref a from rx)
  obtain⟨_,_,_,p⟩:=(show ObjOk X.prog X.w H s.heap a (.tup xs) from I.hok a _ ea)
  obtain⟨o,h1,h2,_⟩:=p
  exact PySem.W.kia_one PySem.W.kitx_tuple I.kIn ⟨o,h1,h2⟩ e (λz=>nomatch z) h
 | @dK a kvs ea =>
  cases (show u=Value.ref a from rx)
  obtain⟨_,_,vs,_,p⟩:=(show ObjOk X.prog X.w H s.heap a (.dK kvs) from I.hok a _ ea)
  obtain⟨o,es,ep,h1,h2,_⟩:=p
  exact PySem.W.kia_one PySem.W.kitx_dict I.kIn ⟨o,h1,h2.1⟩ e (λz=>nomatch z) h
 | @dT a kvs ea =>
  cases (show u=Value.ref a from rx)
  obtain⟨_,_,xs,_,o,es,ep,h1,h2,_⟩:=(show ObjOk X.prog X.w H s.heap a (.dT kvs) from I.hok a _ ea)
  exact PySem.W.kia_one PySem.W.kitx_dict I.kIn ⟨o,h1,h2.1⟩ e (λz=>nomatch z) h
 | @ins a C dx fs ea cl ha hn htk hm =>
  cases (show u=Value.ref a from rx)
  obtain⟨mA,O,_⟩:=ins_get I.hok ea
  obtain⟨od,J,_⟩:=O.look
  exact PySem.W.kia_one (PySem.W.kitx_own (cl.get _) cl.hd ha hn htk hm) I.kIn J e (λz=>nomatch z) h
end
end L2
namespace L2
open PySem PySem.Spec PyProof.Rows
structure Room(k:Nat)(A:Around):Prop where
 hd:A.handled=none
 dp:A.depth+3*k+5<recursionLimit
 un:A.units+16*k+200<cLine
theorem Room.mono{j k:Nat}{A:Around}(r:Room k A)(h:j<=k):Room j A:=⟨r.hd,by have:=r.dp;omega,by have:=r.un;omega⟩
theorem Room.deeper{k:Nat}{A:Around}(r:Room (k+1) A)(env:Env):Room k (A.deeper env) :=
 ⟨r.hd,by have:=r.dp;show A.depth+1+3*k+5<_;omega,by have:=r.un;show A.units+3+16*k+200<_;omega⟩
theorem make_depth{A:Around}{C:Addr}{us:List Value}{kw:List (Str×Value)}:(A.under (.builtin "type.__call__" ⟨.ref C::us,kw⟩)).depth=A.depth+1:=by
 first|rfl|simp[Around.under,Code.weight,Code.isCreation,Code.isGuard,Code.isCaller,Code.frames,Code.isFrame,guardIds]
theorem make_units{A:Around}{C:Addr}{us:List Value}{kw:List (Str×Value)}:(A.under (.builtin "type.__call__" ⟨.ref C::us,kw⟩)).units=A.units+1:=by
 first|rfl|simp[Around.under,Code.cUnits,Code.frames,Code.isFrame]
theorem Room.make{k:Nat}{A:Around}(r:Room (k+1) A)(C:Addr)(us:List Value)(kw:List (Str×Value)):Room k (A.under (.builtin "type.__call__" ⟨.ref C::us,kw⟩)) :=
 ⟨r.hd,by have:=r.dp;rw[make_depth];omega,by have:=r.un;rw[make_units];omega⟩
theorem Room.depth{k:Nat}{A:Around}(r:Room k A):A.depth<recursionLimit:=by have:=r.dp;omega
theorem Room.units{k:Nat}{A:Around}(r:Room k A):A.units+64<cLine:=by have:=r.un;omega
def tNil:TA:=λ_ H Q=>Q [] H
def tCons(ta:TE)(tr:TA):TA:=λσ H Q=>ta σ H λx H1=>tr σ H1 λxs H2=>Q (x::xs) H2
section
variable{X:Cx}{e:Expr}{es:List Expr}{te:TE}{t:TA}{pos:Pos}
theorem q0b:PA X [] tNil:=λ_ _ _ _ H Q I h=>Calls.spliced_nil ⟨[],H,I,.nil,h⟩
theorem q0a(ha:PE X e te)(hr:PA X es t)(hs:starEach (e::es) X.env=(false,eval e X.env)::starEach es X.env:=by rfl):PA X (e::es) (tCons te t):=by
 intro pos pins s σ H Q I h
 rw[hs]
 show wpAny _ _ (spliced ((false,eval e X.env)::backTo pos (starEach es X.env))) _ _ s
 refine Calls.spliced_cons (thn (ha pins s σ H _ I h) λu s1 ⟨x,H1,I1,r1,q1⟩=>?_)
 exact thn (hr pos pins s1 σ H1 _ I1 q1) λus s2 ⟨xs,H2,I2,r2,q2⟩=>⟨x::xs,H2,I2,.cons r1 r2,q2⟩
def tTup(t:TA):TE:=λσ H Q=>t σ H λxs H1=>xs.length<=sizeLine/\∀p,H1 p=none->Q (.ref p) (upd H1 p (.tup xs))
def tLst(t:TA):TE:=λσ H Q=>t σ H λxs H1=>xs.length<=sizeLine/\∀p,H1 p=none->Q (.ref p) (upd H1 p (.lst xs))
theorem q7t{x1}(h:PA X es t):PE X (.Tuple es x1 pos) (tTup t):=by
 intro pins s σ H Q I hq
 refine wpAny_Tuple_spliced (thn (h pos pins s σ H _ I hq) λus s1 ⟨xs,H1,I1,r,z,q⟩=>⟨by rw[←r.length];exact z,?_⟩)
 have hf:H1 s1.heap.objs.size=none:=I1.hok.fresh (Nat.le_refl _)
 refine⟨.ref s1.heap.objs.size,upd H1 s1.heap.objs.size (.tup xs),I1.laid (t':=s1.toks) (λb u e=>Heap.get?_push_of_some _ e) (Nat.le_refl _) ?_,rfl,q _ hf⟩
 exact⟨z,us,r,⟨_,Heap.get?_push_size _ rfl,rfl,_,rfl⟩⟩
theorem q4p(h:PA X es t):PE X (.List es pos) (tLst t):=by
 intro pins s σ H Q I hq
 refine wpAny_List_spliced (thn (h pos pins s σ H _ I hq) λus s1 ⟨xs,H1,I1,r,z,q⟩=>⟨by rw[←r.length];exact z,?_⟩)
 have hf:H1 s1.heap.objs.size=none:=I1.hok.fresh (Nat.le_refl _)
 refine⟨.ref s1.heap.objs.size,upd H1 s1.heap.objs.size (.lst xs),I1.laid (t':=s1.toks) (λb u e=>Heap.get?_push_of_some _ e) (Nat.le_refl _) ?_,rfl,q _ hf⟩
 exact⟨z,us,0,r,Heap.get?_push_size _ rfl⟩
end
abbrev Sp:=List V->Hp->VK->XK->Prop
abbrev CXT:=List Env->Hp->Shared->XK->Value->Shared->Prop
structure Env0(P:Program)(w:World)(K:PySem.W.Frag)(mg:Str->Option Value)(base:Heap)(A:Around)(outer:List Env)(s:Shared)(H:Hp):Prop where
 frames:A.frames=some outer
 mod:Mod K mg base
 bs:∀b o,base.get? b=some o->s.heap.get? b=some o/\H b=none
 bsz:base.objs.size<=s.heap.objs.size
 funs:s.heap.FunFrames base outer
 frf:∀b∈frs outer,H b=none
 hok:HOk P w H s.heap
 bare:AllBare s.gens
 tk:TokB mg s.toks
def CE(outer:List Env)(P:Program)(w:World)(H:Hp)(s:Shared)(Q:VK)(u:Value)(s':Shared):Prop :=
 ∃v H',s'.os=s.os/\AllBare s'.gens/\Un (frs outer) [] H H' s.heap s'.heap/\HOk P w H' s'.heap/\RelV v u/\s.toks<=s'.toks/\Q v H'
def CR(CX:CXT)(outer:List Env)(P:Program)(w:World)(H:Hp)(s:Shared)(Q:VK)(E:XK)(r:Result)(s':Shared):Prop :=
 match r with
 | .ok (.ret u)=>CE outer P w H s Q u s'
 | .ok _=>False
 | .error e=>CX outer H s E e s'
structure FnOk(P:Program)(w:World)(K:PySem.W.Frag)(mg:Str->Option Value)(base:Heap)(CX:CXT)(k:Nat)(f:Addr)(fd:FuncData)(ps:List Str)(sp:Sp):Prop where
 len:∀vs H Q E,sp vs H Q E->vs.length=ps.length
 run:∀(A:Around) (outer:List Env) (s:Shared) (H:Hp) (args:Args) (us:List Value) (vs:List V) (Q:VK) (E:XK),Room k A->Env0 P w K mg base A outer s H->BindsTo s fd args (ps.zip us)->Vals vs us->sp vs H Q E →
  codeAny (model P w) A (.call (.ref f) args) (CR CX outer P w H s Q E) s
theorem Env0.make{P:Program}{w:World}{K:PySem.W.Frag}{mg:Str->Option Value}{base:Heap}{A:Around}{outer:List Env}{s:Shared}{H:Hp}(e:Env0 P w K mg base A outer s H)(C:Addr)(us:List Value)(kw:List (Str×Value)):
  Env0 P w K mg base (A.under (.builtin "type.__call__" ⟨.ref C::us,kw⟩)) outer s H:=⟨by first|exact e.frames|(simpa[Around.under,Code.envs,Code.isFrame,pushEnvs]using e.frames),e.mod,e.bs,e.bsz,e.funs,e.frf,e.hok,e.bare,e.tk⟩
section
variable{X:Cx}{pins:List (Addr×Obj)}{σ:St}{H:Hp}{s s':Shared}
theorem Inv.env0(I:Inv X pins σ H s):Env0 X.prog X.w X.K X.mg X.base X.A X.stack s H :=
 ⟨I.ok.frames,I.ok.mod,I.bs,Nat.le_trans I.ok.bsz I.sz,I.stack,I.stkFree,I.hok,I.bare,I.tk⟩
theorem Inv.after{Q:VK}{u:Value}(I:Inv X pins σ H s)(h:CE X.stack X.prog X.w H s Q u s'):EP X pins σ Q u s':=by
 obtain⟨v,H',os,bare,un,hok,r,tt,q⟩:=h
 obtain⟨hh,g,d,t,os'⟩:=s'
 obtain rfl:os'=s.os:=os
 exact⟨v,H',I.call (h':=hh) (g':=g) (d':=d) (t':=t) (ch:=[]) un hok bare (λb z=>absurd z (by simp)) (Nat.le_trans I.up tt),r,q⟩
end
def tCall(sp:Sp)(dvs:List V)(E:XK)(t:TA):TE:=λσ H Q=>t σ H λvs H1=>sp (vs++dvs) H1 Q E
def tMake(C:Addr)(sp:Sp)(dvs:List V)(E:XK)(t:TA):TE:=λσ H Q=>t σ H λvs H1=>∀x dx,H1 x=none->H1 dx=none->dx≠x →
 sp (.ref x::(vs++dvs)) (upd (upd H1 dx (.own x)) x (.ins C dx [])) (λv H2=>v= .non/\Q (.ref x) H2) E
def Binds(K:PySem.W.Frag)(fd:FuncData)(ps:List Str)(ds:List Value):Prop :=
 ∀(s:Shared) (us:List Value),K.In s.heap->(us++ds).length=ps.length->BindsTo s fd ⟨us,[]⟩ (ps.zip (us++ds))
theorem Binds.all{K:PySem.W.Frag}{fd:FuncData}{ps:List Str}(h:∀us:List Value,us.length=ps.length->bindArgs fd ⟨us,[]⟩=pure (ps.zip us)):Binds K fd ps []:=λs us _ hl=>by
 rw[List.append_nil]at hl ⊢
 exact .of_eq (h us hl)
def z4o(CX:CXT)(X:Cx)(E:XK):Prop:=∀(pins:List (Addr×Obj)) (σ:St) (H:Hp) (s:Shared) (e:Value) (s':Shared),Inv X pins σ H s->CX X.stack H s E e s'->X.xe e s'
section
variable{X:Cx}{CX:CXT}{k:Nat}{f C:Addr}{fd:FuncData}{ps:List Str}{sp:Sp}{dvs:List V}{ds:List Value}{E:XK}{x m:Str}{p pos apos:Pos}{e o:Expr}{es:List Expr}{ta:TE}{t:TA}
theorem run_fn{pins:List (Addr×Obj)}{σ:St}{H:Hp}{s:Shared}{Q:VK}{us:List Value}{vs:List V}(F:FnOk X.prog X.w X.K X.mg X.base CX k f fd ps sp)(hr:Room k X.A)(hb:Binds X.K fd ps ds)(hd:Vals dvs ds)(hx:z4o CX X E)
  (I:Inv X pins σ H s) (r:Vals vs us) (h:sp (vs++dvs) H Q E):wpAny (model X.prog X.w) X.A (call (.ref f) us) (EP X pins σ Q) X.xe s:=by
 have r2:Vals (vs++dvs) (us++ds):=r.append hd
 have hl:(us++ds).length=ps.length:=by rw[←r2.length];exact F.len _ _ _ _ h
 refine wpAny_call (codeAny_mono (F.run X.A X.stack s H ⟨us,[]⟩ (us++ds) (vs++dvs) Q E hr I.env0 (hb s us I.kIn hl) r2 h) λr s' hq=>?_)
 cases r with
 |error e=>exact hx pins σ H s e s' I hq
 |ok fl =>
  cases fl with
  |ret u=>exact I.after hq
  |next=>exact False.elim hq
  |brk=>exact False.elim hq
  |cont=>exact False.elim hq
theorem q0h(F:FnOk X.prog X.w X.K X.mg X.base CX k f fd ps sp)(hr:Room k X.A)(hg:Gl X x)(hm:X.mg x=some (.ref f))(hk:PySem.W.keepIn X.K (.ref f)=true)(hb:Binds X.K fd ps ds)(hd:Vals dvs ds)(hx:z4o CX X E)
  (ha:PA X (e::es) t) (hdb:(x==("__debug__" :Str))=false:=by decide) (he:starEach (e::es) X.env=(false,eval e X.env)::starEach es X.env:=by rfl) (hpl:(backTo pos (starEach es X.env)).any (·.1)=false:=by rfl) :
  PE X (.Call (.Name x p) (e::es) [] pos) (tCall sp dvs E t):=by
 intro pins s σ H Q I h
 refine wpAny_Call_Name_kw (q7f I hg hm ?_ hdb)
 refine PySem.W.callWith_K (h₀:=X.base) I.ok.mod.kin hk (thn (ha pos pins s σ H _ I h) λus s1 ⟨vs,H1,I1,r,q⟩=>⟨I1.kIn,?_⟩) he hpl
 exact run_fn F hr hb hd hx I1 r q
structure Mk(K:PySem.W.Frag)(C f:Addr):Prop where
 makes:PySem.W.makesIn K C=true
 init:PySem.W.findIn K (.ref C) "__init__" =some (some (.ref f))
 fn:PySem.W.isFn K (.ref f)=true
 kp:PySem.W.keepIn K (.ref C)=true
theorem run_make{pins:List (Addr×Obj)}{σ:St}{H:Hp}{s:Shared}{Q:VK}{us:List Value}{vs:List V}(M:Mk X.K C f)(F:FnOk X.prog X.w X.K X.mg X.base CX k f fd ps sp)(hr:Room (k+1) X.A)(hb:Binds X.K fd ps ds)(hd:Vals dvs ds)
  (hx:z4o CX X E) (I:Inv X pins σ H s) (r:Vals vs us)
  (h:∀x dx,H x=none->H dx=none->dx≠x->sp (.ref x::(vs++dvs)) (upd (upd H dx (.own x)) x (.ins C dx [])) (λv H2=>v= .non/\Q (.ref x) H2) E) :
  wpAny (model X.prog X.w) X.A (call (.ref C) us) (EP X pins σ Q) X.xe s:=by
 have hq:=h (s.heap.objs.size+1) s.heap.objs.size (I.hok.fresh (Nat.le_succ _)) (I.hok.fresh (Nat.le_refl _)) (Nat.ne_of_lt (Nat.lt_succ_self _))
 have I2:=Inv.made (C:=C) I
 have r2:Vals (V.ref (s.heap.objs.size+1)::(vs++dvs)) (Value.ref (s.heap.objs.size+1)::(us++ds)):=.cons rfl (r.append hd)
 have hl:(Value.ref (s.heap.objs.size+1)::us++ds).length=ps.length:=by
  have e:=r2.length
  rw[F.len _ _ _ _ hq]at e
  exact e.symm
 refine wpAny_call (make_map (f:=f) I.kIn M.makes M.init (beq_iff_eq.mp M.fn) (codeAny_mono (F.run _ X.stack _ _ ⟨Value.ref (s.heap.objs.size+1)::us,[]⟩ (Value.ref (s.heap.objs.size+1)::(us++ds)) _ _ E (hr.make C us [])
  (I2.env0.make C us []) (hb _ (Value.ref (s.heap.objs.size+1)::us) I2.kIn hl) r2 hq) λr s' hq'=>?_))
 cases r with
 |error e=>exact hx pins σ _ _ e s' I2 hq'
 |ok fl =>
  cases fl with
  |ret u =>
   obtain⟨v,H',I3,rv,ev,q3⟩:=I2.after hq'
   subst ev
   exact⟨rv,⟨V.ref (s.heap.objs.size+1),H',I3,rfl,q3⟩⟩
  |next=>exact False.elim hq'
  |brk=>exact False.elim hq'
  |cont=>exact False.elim hq'
theorem q7u(M:Mk X.K C f)(F:FnOk X.prog X.w X.K X.mg X.base CX k f fd ps sp)(hr:Room (k+1) X.A)(hg:Gl X x)(hm:X.mg x=some (.ref C))(hb:Binds X.K fd ps ds)(hd:Vals dvs ds)(hx:z4o CX X E)
  (ha:PA X (e::es) t) (hdb:(x==("__debug__" :Str))=false:=by decide) (he:starEach (e::es) X.env=(false,eval e X.env)::starEach es X.env:=by rfl) (hpl:(backTo pos (starEach es X.env)).any (·.1)=false:=by rfl) :
  PE X (.Call (.Name x p) (e::es) [] pos) (tMake C sp dvs E t):=by
 intro pins s σ H Q I h
 refine wpAny_Call_Name_kw (q7f I hg hm ?_ hdb)
 refine PySem.W.callWith_K (h₀:=X.base) I.ok.mod.kin M.kp (thn (ha pos pins s σ H _ I h) λus s1 ⟨vs,H1,I1,r,q⟩=>⟨I1.kIn,?_⟩) he hpl
 exact run_make M F hr hb hd hx I1 r q
end
section
variable{X:Cx}{CX:CXT}{k:Nat}{f C:Addr}{fd:FuncData}{ps ks:List Str}{sp:Sp}{E:XK}{x m:Str}{p pos apos kpos:Pos}{e o:Expr}{es:List Expr}{kws:List Keyword}{te ta:TE}{t tk:TA}{nm:Option Str}
variable{g:List Value->List Value->List Value}{gV:List V->List V->List V}
end
structure q0k(N P:List Str)(sc:Scope):Prop where
 kind:sc.kind= .function
 co:sc.isCoroutine=false
 gen:sc.isGenerator=false
 nd:N.Nodup
 pre:N.take P.length=P
 par:∀x∈P,sc.names.lookup x=some .local\/sc.names.lookup x=some .cell
 nofree:∀y∈sc.names,y.2≠ .free
theorem bindL_out{kindOf:Str->Option NameKind}{x:Str}:∀{binds:List (Str×Value)} {m:Str->Option Value},(∀v,(x,v)∉binds)->bindL kindOf binds m x=m x
 |[],_,_=>rfl
 |(n,v)::r,m,h=>by
  unfold bindL
  rw[bindL_out λw hw=>h w (List.mem_cons_of_mem _ hw)]
  split
  ·have:x≠n:=by rintro rfl;exact h v List.mem_cons_self
   simp[this]
  ·rfl
theorem bindC_out{kindOf:Str->Option NameKind}{x:Str}:∀{binds:List (Str×Value)} {m:Str->Option Value},(∀v,(x,v)∉binds)->bindC kindOf binds m x=m x
 |[],_,_=>rfl
 |(n,v)::r,m,h=>by
  unfold bindC
  rw[bindC_out λw hw=>h w (List.mem_cons_of_mem _ hw)]
  split
  ·rfl
  ·have:x≠n:=by rintro rfl;exact h v List.mem_cons_self
   simp[this]
theorem bindL_get{kindOf:Str->Option NameKind}{x:Str}{v:Value}:∀{P:List Str} {vs:List Value} {i:Nat} {m:Str->Option Value},P.Nodup->P[i]? =some x->vs[i]? =some v->kindOf x=some .local →
  bindL kindOf (P.zip vs) m x=some v
 |[],_,_,_,_,h,_,_=>by simp at h
 |_::_,[],_,_,_,_,h,_=>by simp at h
 |p::P,w::vs,0,m,nd,h1,h2,hk=>by
  simp at h1 h2;subst h1;subst h2
  show bindL kindOf ((p,w)::P.zip vs) m p=_
  unfold bindL
  rw[bindL_out λv hv=>(List.nodup_cons.mp nd).1 (List.of_mem_zip hv).1,if_pos hk]
  simp
 |p::P,w::vs,i+1,m,nd,h1,h2,hk=>by
  show bindL kindOf ((p,w)::P.zip vs) m x=_
  unfold bindL
  exact bindL_get (i:=i) (List.nodup_cons.mp nd).2 (by simpa using h1) (by simpa using h2) hk
theorem bindC_get{kindOf:Str->Option NameKind}{x:Str}{v:Value}:∀{P:List Str} {vs:List Value} {i:Nat} {m:Str->Option Value},P.Nodup->P[i]? =some x->vs[i]? =some v->kindOf x≠some .local →
  bindC kindOf (P.zip vs) m x=some v
 |[],_,_,_,_,h,_,_=>by simp at h
 |_::_,[],_,_,_,_,h,_=>by simp at h
 |p::P,w::vs,0,m,nd,h1,h2,hk=>by
  simp at h1 h2;subst h1;subst h2
  show bindC kindOf ((p,w)::P.zip vs) m p=_
  unfold bindC
  rw[bindC_out λv hv=>(List.nodup_cons.mp nd).1 (List.of_mem_zip hv).1,if_neg hk]
  simp
 |p::P,w::vs,i+1,m,nd,h1,h2,hk=>by
  show bindC kindOf ((p,w)::P.zip vs) m x=_
  unfold bindC
  exact bindC_get (i:=i) (List.nodup_cons.mp nd).2 (by simpa using h1) (by simpa using h2) hk
def z4q(N:List Str)(vs:List V):St:=vs.map some++List.replicate (N.length-vs.length) none
def cxOf(CX:CXT)(P:Program)(w:World)(K:PySem.W.Frag)(mg:Str->Option Value)(base:Heap)(N:List Str)(qual:Str)(scope:Scope)(f:Addr)(cd:Value)(A:Around)(outer:List Env)(s:Shared)(H:Hp)(E:XK):Cx where
 prog:=P
 w:=w
 K:=K
 mg:=mg
 base:=base
 A:=A.deeper (envOfC qual scope s.heap.objs.size f cd)
 N:=N
 s₀:=s
 H₀:=H
 env:=envOfC qual scope s.heap.objs.size f cd
 outer:=outer
 stack:=envOfC qual scope s.heap.objs.size f cd::outer
 ex:=[]
 calm:=true
 fn:=λ_=>true
 pn:=[]
 xe:=λe s'=>wpAny (model P w) (A.deeper (envOfC qual scope s.heap.objs.size f cd)) (leaving (envOfC qual scope s.heap.objs.size f cd) e) (λ_ s''=>CX outer H s E e s'') (λe' s''=>CX outer H s E e' s'') s'
theorem cell_has{sc:Scope}{n:Nat}{x:Str}(h:sc.names.lookup x=some .cell):∃c,(cellsFrom n sc.names []).lookup x=some c:=by
 have q:=PySem.W.cellsFrom_some sc.names n [] (.inl h)
 exact Option.isSome_iff_exists.mp q
theorem inv_start{CX:CXT}{P:Program}{w:World}{K:PySem.W.Frag}{mg:Str->Option Value}{base:Heap}{N ps:List Str}{qual:Str}{scope:Scope}{f:Addr}{cd:Value}{A:Around}{outer:List Env}{s s1:Shared}{H:Hp}{E:XK}{us:List Value}{vs:List V}
  (S:q0k N ps scope) (hd:A.handled=none) (e0:Env0 P w K mg base A outer s H) (hl:vs.length=ps.length) (r:Vals vs us)
  (x:InCallC s s.heap.objs.size (bindL (envOfC qual scope s.heap.objs.size f cd).kindOf (ps.zip us) λ_=>none) (cellsFrom (s.heap.objs.size+1) scope.names []) (bindC (envOfC qual scope s.heap.objs.size f cd).kindOf (ps.zip us) λ_=>none) s1) (hup:s.toks<=s1.toks) :
  Inv (cxOf CX P w K mg base N qual scope f cd A outer s H E) [] (z4q N vs) H s1:=by
 have hpl:ps.length<=N.length:=by have:=congrArg List.length S.pre;rw[List.length_take]at this;omega
 obtain⟨h1,tk,rfl,hk⟩:=x.done
 have htk:s.toks<=tk:=hup
 have noA:∀b:Addr,b∉(cxOf CX P w K mg base N qual scope f cd A outer s H E).ex:=λb z=>absurd (show b∈([]:List Addr) from z) (by simp)
 refine⟨⟨e0.mod,S.kind,rfl,rfl,Nat.le_refl _,λy z c h1 h2=>?_,λy hy=>?_,λy c _ h=>?_,λ_=>hd,Around.frames_deeper e0.frames,.inr ⟨rfl,rfl⟩,λb z=>absurd z (noA b),e0.bs,e0.bsz,λb _ _=>noA b,λb z=>absurd z (noA b),e0.funs,e0.frf,e0.tk⟩,
  rfl,e0.bare,Un.kept hk,⟨_,x.toInCall.ns,λi y v h1 h2 h3=>?_⟩,λy c h=>⟨_,x.cell y c h⟩,e0.hok.fresh (Nat.le_refl _),λy c h=>?_,λp hp=>absurd (show p∈([]:List (Addr×Obj)) from hp) (by simp),e0.hok.kept hk,?_,htk⟩
 ·exact name_of_addr x.apart (PySem.mem_of_lookup h1) (PySem.mem_of_lookup h2)
 ·have hy:scope.names.lookup y=some .cell\/scope.names.lookup y=some .free:=hy
  rcases hy with hy|hy
  ·exact cell_has hy
  ·exact absurd rfl (S.nofree _ (PySem.mem_of_lookup hy))
 ·exact Nat.le_of_lt (x.above y c (PySem.mem_of_lookup h))
 ·have hi:i<vs.length:=by
   unfold z4q at h2
   by_cases hi:i<vs.length
   ·exact hi
   ·rw[List.getElem?_append_right (by simpa using hi)]at h2
    rw[List.getElem?_replicate]at h2
    split at h2<;>cases h2
  have ha:vs[i]? =some v:=by
   unfold z4q at h2
   rw[List.getElem?_append_left (by simpa using hi),List.getElem?_map]at h2
   cases e:vs[i]? with
   |none=>rw[e]at h2;cases h2
   |some a=>rw[e]at h2;cases h2;rfl
  obtain⟨u,hu,rv⟩:=r.get ha
  have hp:ps[i]? =some y:=by
   rw[←S.pre,List.getElem?_take_of_lt (by omega)];exact h1
  have ndP:ps.Nodup:=by rw[←S.pre];exact S.nd.sublist (List.take_sublist _ _)
  refine⟨u,rv,?_⟩
  rcases S.par y (List.mem_of_getElem? hp)with k|k
  ·exact .inl ⟨k,bindL_get ndP hp hu k⟩
  ·obtain⟨c,e⟩:=cell_has (n:=s.heap.objs.size+1) k
   refine .inr ⟨.inl k,c,e,?_⟩
   have q:=x.cell y c e
   rw[bindC_get ndP hp hu (by show scope.names.lookup y≠_;rw[k];decide)]at q
   exact q
 ·exact e0.hok.fresh (Nat.le_of_lt (x.above y c (PySem.mem_of_lookup h)))
 ·unfold z4q
  show _=N.length
  rw[List.length_append,List.length_map,List.length_replicate]
  omega
theorem fn_of{CX:CXT}{P:Program}{w:World}{K:PySem.W.Frag}{mg:Str->Option Value}{base:Heap}{k:Nat}{f:Addr}{name qual:Str}{params:Arguments}{body:List Stmt}{scope:Scope}{dV kV doc pm cdv ct oc:Value}{an od:Option Addr}
  {osl:Array (Option Value)} {N ps:List Str} {sp:Sp} (lk:K.lookup f=some ⟨oc,od,.func (PySem.W.fnOf name qual params body scope dV kV doc pm an cdv ct),osl⟩) (hcd:PySem.W.codeIn K cdv qual=true) (S:q0k N ps scope)
  (len:∀vs H Q E,sp vs H Q E->vs.length=ps.length)
  (hbody:∀(A:Around) (outer:List Env) (s:Shared) (H:Hp) (vs:List V) (Q:VK) (E:XK),Room k (A.deeper (envOfC qual scope s.heap.objs.size f cdv))->sp vs H Q E →
   ∃t,PSs (cxOf CX P w K mg base N qual scope f cdv A outer s H E) body t/\t { nx:=λ_ H'=>Q .non H',rt:=Q } (z4q N vs) H) :
  FnOk P w K mg base CX (k+1) f (PySem.W.fnOf name qual params body scope dV kV doc pm an cdv ct) ps sp:=by
 refine⟨len,λA outer s H args us vs Q E hr e0 hb r hsp=>?_⟩
 have hl:=len _ _ _ _ hsp
 have KX:K.In s.heap:=e0.mod.kin.keeps λb o e=>(e0.bs b o e).1
 have lim:s.heap.NoLimit:=e0.mod.nolimit.keeps λb o e=>(e0.bs b o e).1
 have hkind:∀y∈ps.zip us,scope.names.lookup y.1=some .local\/(scope.names.lookup y.1=some .cell/\((cellsFrom (s.heap.objs.size+1) scope.names []).lookup y.1).isSome=true):=λ⟨n,v⟩ hy=>by
  rcases S.par n (List.of_mem_zip hy).1 with q|q
  ·exact .inl q
  ·exact .inr ⟨q,PySem.W.cellsFrom_some _ _ _ (.inl q)⟩
 refine TK.codeAny_up (Nat.le_refl _) ?_
 refine codeAny_call_function hr.depth (KX _ _ lk) rfl S.co S.gen rfl (PySem.W.codeRec_of KX hcd) (hb _ _ _ _ ?_)
 refine TK.wpAny_up (Nat.le_refl _) (wpAny_newFunctionEnv_cells S.kind hkind λenv he s1 x hup=>?_)
 subst he
 refine⟨lim.keeps x.toInCall.keep,codeAny_func ?_⟩
 obtain⟨t,ht,hq⟩:=hbody A outer s H vs Q E (hr.deeper _) hsp
 have I:Inv (cxOf CX P w K mg base N qual scope f cdv A outer s H E) [] (z4q N vs) H s1:=inv_start S hr.hd e0 hl r x hup
 refine wpAny_mono (ht [] s1 (z4q N vs) H _ I hq) (λfl s' hs hup'=>?_) λe s' hs=>wpAny_mono hs (λ_ _ z _=>z) λ_ _ z _=>z
 have fin:∀{σ':St} {H':Hp} {v:V} {u:Value},Inv (cxOf CX P w K mg base N qual scope f cdv A outer s H E) [] σ' H' s'->RelV v u->Q v H'->CE outer P w H s Q u s' :=
  λ{σ' H' v u} J rv q=>⟨v,H',J.os,J.bare,J.base,J.hok,rv,hup',q⟩
 cases fl with
 |ret u =>
  obtain⟨v,σ',H',J,rv,q⟩:=hs
  exact fin J rv q
 |next =>
  obtain⟨σ',H',J,q⟩:=hs
  exact fin (v:=V.non) (u:=Value.none) J rfl q
 |brk =>
  obtain⟨_,_,_,q⟩:=hs
  exact False.elim q
 |cont =>
  obtain⟨_,_,_,q⟩:=hs
  exact False.elim q
end L2
namespace L2
open PySem PySem.Spec PyProof.Rows
section
variable{X:Cx}{x:Str}{p pos:Pos}{e:Expr}{es:List Expr}{t:TA}{id T:String}{r:List V->Hp->VK->Prop}
def tCB(r:List V->Hp->VK->Prop)(t:TA):TE:=λσ H Q=>t σ H λvs H1=>r vs H1 Q
theorem q0i (hc:z0w X (.builtin id) r) (hg:Gl X x) (hm:X.mg x=none) (hv:bootBuiltins x=some (.builtin id)) (ha:PA X (e::es) t) (hn:x≠ "__name__" :=by decide) (hdb:(x==("__debug__" :Str))=false:=by decide)
  (he:starEach (e::es) X.env=(false,eval e X.env)::starEach es X.env:=by rfl) (hpl:(backTo pos (starEach es X.env)).any (·.1)=false:=by rfl):PE X (.Call (.Name x p) (e::es) [] pos) (tCB r t):=by
 intro pins s σ H Q I h
 refine wpAny_Call_Name_kw (q9w I hg hm hv ?_ hn hdb)
 exact PyProof.Rows.callWith_builtin1 (thn (ha pos pins s σ H _ I h) λus s1 ⟨vs,H1,I1,r1,q1⟩=>hc pins s1 σ H1 vs us Q I1 r1 q1) he hpl
theorem q7v (hc:z0w X (.type T) r) (hg:Gl X x) (hm:X.mg x=none) (hv:bootBuiltins x=some (.type T)) (ha:PA X (e::es) t) (hn:x≠ "__name__" :=by decide) (hdb:(x==("__debug__" :Str))=false:=by decide)
  (he:starEach (e::es) X.env=(false,eval e X.env)::starEach es X.env:=by rfl) (hpl:(backTo pos (starEach es X.env)).any (·.1)=false:=by rfl):PE X (.Call (.Name x p) (e::es) [] pos) (tCB r t):=by
 intro pins s σ H Q I h
 refine wpAny_Call_Name_kw (q9w I hg hm hv ?_ hn hdb)
 exact PyProof.Rows.callWith_type1 (thn (ha pos pins s σ H _ I h) λus s1 ⟨vs,H1,I1,r1,q1⟩=>hc pins s1 σ H1 vs us Q I1 r1 q1) he hpl
end
end L2
namespace HT
open PySem PyProof.Rows
section
open PySem.SeqAt
open PySem.AutoSeq1 (wpAny_loadPart')
open PySem.MeetsSeq PySem.MeetsSeq2 PySem.MeetsSeq3
end
section
variable{prog:Program}{w:World}{A:Around}{E:Value->Shared->Prop}{s:Shared}
theorem cat_tup{t b:Addr}{vs ws:List Value}{Q:Value->Shared->Prop}(ht:IsTup s.heap t vs.toArray)(hb:IsTup s.heap b ws.toArray)(hv:vs≠[])
  (h1:ws=[]->Q (.ref t) s) (h2:ws≠[]->Q (.ref s.heap.objs.size) { s with heap:=s.heap.push { cls:=.type "tuple",data:=.seq (vs++ws).toArray } })
  (hsz:vs.length+ws.length<=sizeLine):wpAny (model prog w) A (binaryOp .Add (.ref t) (.ref b)) Q E s:=by
 obtain⟨⟨cls,dd,data,sl⟩,ho,hc,n,hd⟩:=id ht
 obtain⟨⟨cls2,dd2,data2,sl2⟩,ho2,hc2,n2,hd2⟩:=id hb
 simp only at hc hd hc2 hd2
 subst hc hd hc2 hd2
 have e:vs.toArray++ws.toArray=(vs++ws).toArray:=by simp
 by_cases hw:ws=[]
 ·exact concat_meets ⟨_,ho,rfl⟩ ⟨_,ho2,rfl⟩ noFill_tuple_add seq_tuple_add PySem.F.slot_tuple_add PySem.F.entry_tuple_add (PySem.F.args_tuple_add_2 _ _)
   (tuple_addW1 t b vs.toArray ws.toArray n n2 dd dd2 sl sl2 (by simpa using hv) (by simp[hw])) ⟨ho,ho2,h1 hw⟩
 ·refine concat_meets ⟨_,ho,rfl⟩ ⟨_,ho2,rfl⟩ noFill_tuple_add seq_tuple_add PySem.F.slot_tuple_add PySem.F.entry_tuple_add (PySem.F.args_tuple_add_2 _ _)
   (tuple_addW2 t b vs.toArray ws.toArray n n2 dd dd2 sl sl2 (by simpa using hv) (by simpa using hw) (by rw[List.size_toArray,List.size_toArray];exact hsz)) ⟨ho,ho2,?_⟩
  rw[e]
  exact h2 hw
def sIx(n d:Nat):Option Int->Nat
 |none=>d
 |some v=>if v<0 then(v+(n:Int)).toNat else min v.toNat n
theorem sIx_none(n d:Nat):sIx n d none=d:=rfl
theorem sIx_nat(n d k:Nat):sIx n d (some (k:Int))=min k n:=by
 show(if(k:Int)<0 then((k:Int)+(n:Int)).toNat else min (k:Int).toNat n)=min k n
 rw[if_neg (by omega),Int.toNat_natCast]
end
end HT
namespace L2
open PySem PySem.Spec PyProof.Rows
abbrev TO:=St->Hp->(Option Int->Hp->Prop)->Prop
def PO(X:Cx)(e:Option Expr)(t:TO):Prop :=
 ∀(pins:List (Addr×Obj)) (s:Shared) (σ:St) (H:Hp) (Q:Option Int->Hp->Prop),Inv X pins σ H s->t σ H Q →
  wpAny (model X.prog X.w) X.A (evalPart e X.env) (λu s'=>∃o H',Inv X pins σ H' s'/\IsPart u o/\Q o H') X.xe s
def tNoPart:TO:=λ_ H Q=>Q none H
def tPart(t:TE):TO:=λσ H Q=>t σ H λx H1=>∃i,x= .int i/\Q (some i) H1
section
variable{X:Cx}{e:Expr}{te:TE}{lo hi:Option Expr}{tl th:TO}{pos p2:Pos}
theorem q7b:PO X none tNoPart:=by
 intro pins s σ H Q I h
 rw[evalPart_none]
 exact wpAny_pure ⟨none,H,I,.none,h⟩
theorem q7a(h:PE X e te):PO X (some e) (tPart te):=by
 intro pins s σ H Q I hw
 rw[evalPart_some]
 refine thn (h pins s σ H _ I hw) λu s1 ⟨x,H1,I1,r1,q1⟩=>?_
 obtain⟨i,rfl,q⟩:=q1
 obtain⟨t,rfl⟩:=r1
 exact⟨some i,H1,I1,.int i t,q⟩
def SlR(X:Cx)(r:V->Option Int->Option Int->Hp->VK->Prop):Prop :=
 ∀(pins:List (Addr×Obj)) (s:Shared) (σ:St) (H:Hp) (x:V) (v vl vu:Value) (lo hi:Option Int) (sl:Addr) (Q:VK),Inv X pins σ H s->RelV x v->s.heap.IsSliceOf sl vl vu .none->IsPart vl lo->IsPart vu hi->r x lo hi H Q →
  ∃T id,typeLookup (.type T) "__getitem__" =pure (some (.builtin id))/\s.TypeIs v T/\wpAny (model X.prog X.w) X.A (getItem v (.ref sl)) (EP X pins σ Q) X.xe s
def tSl(r:V->Option Int->Option Int->Hp->VK->Prop)(te:TE)(tl th:TO):TE:=λσ H Q=>te σ H λx H1=>tl σ H1 λl H2=>th σ H2 λu H3=>r x l u H3 Q
theorem q5f{r:V->Option Int->Option Int->Hp->VK->Prop}(hr:SlR X r)(he:PE X e te)(hl:PO X lo tl)(hu:PO X hi th):PE X (.Subscript e (.Slice lo hi none p2) pos) (tSl r te tl th):=by
 intro pins s σ H Q I h
 refine Subscript_ (thn (he pins s σ H _ I h) λv s1 ⟨x,H1,I1,r1,q1⟩=>?_)
 refine wpAny_Slice (thn (hl pins s1 σ H1 _ I1 q1) λvl s2 ⟨l,H2,I2,pl,q2⟩=>thn (hu pins s2 σ H2 _ I2 q2) λvu s3 ⟨u,H3,I3,pu,q3⟩=>?_)
 rw[evalPart_none]
 refine wpAny_pure ?_
 have I4:Inv X pins σ H3 { s3 with heap:=s3.heap.push { cls:=.type "slice",data:=.fields #[vl,vu,.none] } }:=I3.kept (t':=s3.toks) λb ob q=>Heap.get?_push_of_some _ q
 obtain⟨T,id,hT,ht,hg⟩:=hr pins { s3 with heap:=s3.heap.push { cls:=.type "slice",data:=.fields #[vl,vu,.none] } } σ H3 x v vl vu l u s3.heap.objs.size Q I4 r1 (Heap.IsSliceOf.new ..) pl pu q3
 show wpAny (model X.prog X.w) X.A (subscriptTail e (.Slice lo hi none p2) v (.ref s3.heap.objs.size)) (EP X pins σ Q) X.xe { s3 with heap:=s3.heap.push { cls:=.type "slice",data:=.fields #[vl,vu,.none] } }
 exact tail_any (ops:=[.ref s3.heap.objs.size,v]) ht hT hg (by with_unfolding_all rfl)
def cutV(xs:List V)(lo hi:Option Int):List V:=(xs.drop (HT.sIx xs.length 0 lo)).take (HT.sIx xs.length xs.length hi-HT.sIx xs.length 0 lo)
theorem z3f(xs:List V)(lo hi:Option Int):(cutV xs lo hi).length<=xs.length:=by
 unfold cutV
 rw[List.length_take,List.length_drop]
 omega
def rCatT(K:PySem.W.Frag):R2:=λx y H Q=>∃a b xs ys,x= .ref a/\y= .ref b/\SqT K H a xs/\SqT K H b ys/\xs≠[]/\xs.length+ys.length<=sizeLine ∧
 (ys=[]->Q (.ref a) H)/\(ys≠[]->∀p,H p=none->Q (.ref p) (upd H p (.tup (xs++ys))))
theorem Vals.nil_iff{xs:List V}{us:List Value}(r:Vals xs us):us=[]↔xs=[]:=by
 cases r with
 |nil=>simp
 |cons _ _=>simp
theorem op_catT:OpR X (binaryOp .Add) (rCatT X.K):=by
 intro pins s σ H x y v u Q I rx ry h
 obtain⟨a,b,xs,ys,rfl,rfl,ha,hb,hx,hz,q1,q2⟩:=h
 cases rx
 cases ry
 obtain⟨its,r1,p1,_⟩:=I.tuple ha
 obtain⟨its2,r2,p2,_⟩:=I.tuple hb
 refine HT.cat_tup p1 p2 (λz=>hx (r1.nil_iff.mp z)) (λz=>⟨.ref a,H,I,rfl,q1 (r2.nil_iff.mp z)⟩) (λz=>?_) (by rw[←r1.length,←r2.length];exact hz)
 refine⟨.ref s.heap.objs.size,_,I.laid (t':=s.toks) (o:=.tup (xs++ys)) (λb ob q=>Heap.get?_push_of_some _ q) (Nat.le_refl _) ?_,rfl,q2 (λw=>z (r2.nil_iff.mpr w)) _ (I.hok.fresh (Nat.le_refl _))⟩
 exact⟨by rw[List.length_append];exact hz,_,r1.append r2,IsTup.new _ _⟩
end
end L2
namespace L2
open PySem PySem.Spec PyProof.Rows
def ixN(n:Nat)(i:Int):Option Nat:=if 0<=i then(if i<n then some i.toNat else none)else if -(n:Int)<=i then some (i+n).toNat else none
def atI{α:Type}(xs:List α)(i:Int):Option α:=(ixN xs.length i).bind λj=>xs[j]?
theorem ixN_seq{n:Nat}{i:Int}{j:Nat}(h:ixN n i=some j):seqIndex? i n=some j/\j<n/\ -(n:Int)<=i/\i<n:=by
 unfold ixN at h
 by_cases h0:0<=i
 ·rw[if_pos h0]at h
  by_cases h1:i<n
  ·rw[if_pos h1]at h
   have e:i.toNat=j:=Option.some.inj h
   exact⟨by rw[seqIndex_of h0 h1,e],by omega,by omega,h1⟩
  ·rw[if_neg h1]at h;cases h
 ·rw[if_neg h0]at h
  by_cases h1: -(n:Int)<=i
  ·rw[if_pos h1]at h
   have e:(i+n).toNat=j:=Option.some.inj h
   exact⟨by rw[seqIndex_neg (by omega) h1,e],by omega,h1,by omega⟩
  ·rw[if_neg h1]at h;cases h
theorem atI_get{α:Type}{xs:List α}{i:Int}{v:α}(h:atI xs i=some v):∃j,seqIndex? i xs.length=some j/\xs[j]? =some v/\j<xs.length/\ -(xs.length:Int)<=i/\i<xs.length:=by
 unfold atI at h
 cases e:ixN xs.length i with
 |none=>rw[e]at h;cases h
 |some j =>
  rw[e]at h
  obtain⟨h1,h2,h3,h4⟩:=ixN_seq e
  exact⟨j,h1,h,h2,h3,h4⟩
theorem q0q{α:Type}{xs:List α}{j:Nat}{v:α}(h:xs[j]? =some v):atI xs (j:Int)=some v:=by
 have hj:j<xs.length:=(List.getElem?_eq_some_iff.mp h).1
 have e:ixN xs.length (j:Int)=some j:=by
  unfold ixN
  rw[if_pos (by omega),if_pos (by omega)];simp
 unfold atI;rw[e];exact h
theorem z0c{α:Type}(xs:List α)(v:α):atI (xs++[v]) (-1)=some v:=by
 have hl:(xs++[v]).length=xs.length+1:=by simp
 have e:ixN (xs++[v]).length (-1)=some xs.length:=by
  unfold ixN
  rw[hl,if_neg (by decide),if_pos (by omega)]
  congr 1
  omega
 unfold atI
 rw[e]
 show(xs++[v])[xs.length]? =some v
 simp
def PlainIx(b:Expr):Prop:=∀o i,subscripted b false o i=operate [o,i] (getItem o i)
def IxR(X:Cx)(r:R2):Prop :=
 ∀(value slice:Expr) (pins:List (Addr×Obj)) (s:Shared) (σ:St) (H:Hp) (x y:V) (v u:Value) (Q:VK),Inv X pins σ H s->RelV x v->RelV y u->r x y H Q →
  subscripted slice false v u=operate [v,u] (getItem v u)->wpAny (model X.prog X.w) X.A (subscriptTail value slice v u) (EP X pins σ Q) X.xe s
def MtR(X:Cx)(id:String)(r:V->List V->Hp->VK->Prop):Prop :=
 ∀(pins:List (Addr×Obj)) (s:Shared) (σ:St) (H:Hp) (x:V) (xs:List V) (v:Value) (us:List Value) (Q:VK),Inv X pins σ H s->RelV x v->Vals xs us->r x xs H Q →
  wpAny (model X.prog X.w) X.A (call (.builtin id) (v::us)) (EP X pins σ Q) X.xe s
section
variable{X:Cx}{a b:Expr}{ta tb:TE}{pos:Pos}
theorem IxR.or{r r':R2}(h:IxR X r)(h':IxR X r'):IxR X (λx y H Q=>r x y H Q\/r' x y H Q):=by
 intro value slice pins s σ H x y v u Q I rx ry q hs
 rcases q with q|q
 ·exact h value slice pins s σ H x y v u Q I rx ry q hs
 ·exact h' value slice pins s σ H x y v u Q I rx ry q hs
theorem q0w{r:R2}(hr:IxR X r)(ha:PE X a ta)(hb:PE X b tb)(hs:PlainIx b):PE X (.Subscript a b pos) (tOp r ta tb):=by
 intro pins s σ H Q I h
 exact Subscript_ (binT ha hb I h λv u s2 x y H2 I2 rx ry q=>hr a b pins s2 σ H2 x y v u Q I2 rx ry q (hs _ _))
def rIxL(K:PySem.W.Frag):R2:=λx y H Q=>∃p xs i v,x= .ref p/\y= .int i/\SqL K H p xs/\atI xs i=some v/\Q v H
def rIxT(K:PySem.W.Frag):R2:=λx y H Q=>∃p xs i v,x= .ref p/\y= .int i/\SqT K H p xs/\atI xs i=some v/\Q v H
def rIxS:R2:=λx y H Q=>∃z i c,x= .str z/\y= .int i/\z.length<=sizeLine/\atI z.cps.toList i=some c/\Q (.str ⟨#[c]⟩) H
theorem q0o:IxR X (rIxL X.K):=by
 intro value slice pins s σ H x y v u Q I rx ry h hs
 obtain⟨p,xs,i,z,rfl,rfl,hq,he,q⟩:=h
 cases rx
 obtain⟨t,rfl⟩:=ry
 obtain⟨its,r,pl,hz⟩:=I.list hq
 obtain⟨j,h1,h2,h3,h4,h5⟩:=atI_get he
 obtain⟨w,ew,rw'⟩:=r.get h2
 have hl:=r.length
 have hn:=line63
 have fin:EP X pins σ Q w s:=⟨z,H,I,rw',q⟩
 by_cases h0:0<=i
 ·have hj:i.toNat=j:=by
   rw[seqIndex_of h0 h5]at h1
   exact Option.some.inj h1
  exact item_listR pl.isList h0 (by omega) (by rw[hj];simpa using ew) fin hs
 ·have hj:(i+(its.toArray.size:Int)).toNat=j:=by
   rw[seqIndex_neg (by omega) h4]at h1
   rw[List.size_toArray,←hl]
   exact Option.some.inj h1
  exact subscriptTail_builtinR (x:=w) pl.isList.typeIs slot_list_getitem.lookup
   (wpAny_getItem_list_neg (Q:=λr s'=>r=w/\EP X pins σ Q r s') pl.isList (by omega) (by rw[List.size_toArray]<;>omega) (by omega) (by rw[hj];simpa using ew) ⟨rfl,fin⟩) hs
theorem q3j:IxR X (rIxT X.K):=by
 intro value slice pins s σ H x y v u Q I rx ry h hs
 obtain⟨p,xs,i,z,rfl,rfl,hq,he,q⟩:=h
 cases rx
 obtain⟨t,rfl⟩:=ry
 obtain⟨its,r,pl,hz⟩:=I.tuple hq
 obtain⟨j,h1,h2,h3,h4,h5⟩:=atI_get he
 obtain⟨w,ew,rw'⟩:=r.get h2
 have hl:=r.length
 have hn:=line63
 have fin:EP X pins σ Q w s:=⟨z,H,I,rw',q⟩
 exact subscriptTail_builtinR (x:=w) pl.typeIs slot_tuple_getitem.lookup
  (getItem_tuple (j:=j) (Q:=λr s'=>r=w/\EP X pins σ Q r s') pl (by omega) (by omega) (by rw[List.size_toArray,←hl];exact h1) (by simpa using ew) ⟨rfl,fin⟩) hs
theorem q8r:IxR X rIxS:=by
 intro value slice pins s σ H x y v u Q I rx ry h hs
 obtain⟨z,i,c,rfl,rfl,hz,he,q⟩:=h
 obtain⟨t,rfl⟩:=rx
 obtain⟨t',rfl⟩:=ry
 obtain⟨j,h1,h2,h3,h4,h5⟩:=atI_get he
 have hl:z.cps.toList.length=z.length:=by simp[Str.length]
 rw[hl]at h1 h4 h5
 have hn:=line63
 exact tail_any (typeIs_str s z t) slot_str_getitem.lookup (getItem_str (c:=c) (by
  have e1:decide (i< -(2 ^ 63:Int))=false:=decide_eq_false (by omega)
  have e2:decide (i>=2 ^ 63)=false:=decide_eq_false (by omega)
  rw[e1,e2,Bool.or_false]) (by rw[h1];simpa using h2) ⟨.str ⟨#[c]⟩,H,I.tok _,⟨_,rfl⟩,q⟩) hs
def rIx(K:PySem.W.Frag):R2:=λx y H Q=>rIxL K x y H Q\/rIxT K x y H Q\/rIxS x y H Q
theorem ix_seq:IxR X (rIx X.K):=q0o.or (q3j.or q8r)
theorem mapSeq_set(its:List Value)(n j:Nat)(u:Value):Obj.mapSeq (·.setIfInBounds j u) { cls:=.type "list",data:=.seq its.toArray n }={ cls:=.type "list",data:=.seq (its.set j u).toArray n }:=by
 simp[Obj.mapSeq]
theorem Inv.lst{pins:List (Addr×Obj)}{σ:St}{H:Hp}{s:Shared}{p:Addr}{xs:List V}(I:Inv X pins σ H s)(h:H p=some (.lst xs)):
  ∃(its:List Value) (n:Nat),Vals xs its/\s.heap.get? p=some { cls:=.type "list",data:=.seq its.toArray n }/\xs.length<=sizeLine:=by
 obtain⟨z,its,n,r,e⟩:=I.hok p _ h
 exact⟨its,n,r,e,z⟩
theorem Inv.lstUpd{pins:List (Addr×Obj)}{σ:St}{H:Hp}{s:Shared}{p:Addr}{xs ys:List V}{its its':List Value}{n n':Nat}{f:Obj->Obj}(I:Inv X pins σ H s)(h:H p=some (.lst xs))
  (ho:s.heap.get? p=some { cls:=.type "list",data:=.seq its.toArray n }) (hf:f { cls:=.type "list",data:=.seq its.toArray n }={ cls:=.type "list",data:=.seq its'.toArray n' }) (r:Vals ys its') (hz:ys.length<=sizeLine) (t:Nat) (ht:s.toks<=t:=by first|exact Nat.le_refl _|exact Nat.le_succ _|assumption|omega) :
  Inv X pins σ (upd H p (.lst ys)) { s with heap:=s.heap.update p f,toks:=t }:=by
 have e:(s.heap.update p f).get? p=some { cls:=.type "list",data:=.seq its'.toArray n' }:=by
  rw[Heap.get?_update_self f ho (by rw[hf]<;>rfl),hf]
 refine I.write (x:=p) (e:=p) (by rw[h];trivial) (.inl rfl) (λb u hb q=>(Heap.get?_update_other _ _ (Ne.symm hb)).trans q) ⟨_,e⟩ ?_
 exact⟨hz,its',n',r,e⟩
def rSetL:V->V->V->Hp->(Hp->Prop)->Prop:=λo i v H Q=>∃p xs k j,o= .ref p/\i= .int k/\H p=some (.lst xs)/\ixN xs.length k=some j/\Q (upd H p (.lst (xs.set j v)))
theorem z1r:PSet X rSetL:=by
 intro pins s σ H o i v ov iv u Q I ro ri rv h
 obtain⟨p,xs,k,j,rfl,rfl,hp,hj,q⟩:=h
 cases ro
 obtain⟨t,rfl⟩:=ri
 obtain⟨its,n,r,ho,hz⟩:=I.lst hp
 obtain⟨h1,h2,h3,h4⟩:=ixN_seq hj
 have hl:=r.length
 have hn:=line63
 have I':Inv X pins σ (upd H p (.lst (xs.set j v))) { s with heap:=s.heap.update p (Obj.mapSeq (·.setIfInBounds j u)) } :=
  I.lstUpd hp ho (mapSeq_set its n j u) (r.set rv j) (by rw[List.length_set];exact hz) s.toks
 by_cases h0:0<=k
 ·have hk:k.toNat=j:=by
   rw[seqIndex_of h0 h4]at h1
   exact Option.some.inj h1
  exact PySem.W.ki_setAt ho h0 (by omega) (by rw[List.size_toArray,←hl];exact h4) (by rw[hk];exact⟨_,I',q⟩)
 ·have hk:(k+(its.toArray.size:Int)).toNat=j:=by
   rw[seqIndex_neg (by omega) h3]at h1
   rw[List.size_toArray,←hl]
   exact Option.some.inj h1
  exact PySem.W.ki_setBack ho (by omega) (by rw[List.size_toArray,←hl];exact h3) (by omega) (by rw[hk];exact⟨_,I',q⟩)
theorem slice_bounds(lo hi:Option Int)(n:Nat):(sliceBounds lo hi none n).1=((HT.sIx n 0 lo:Nat):Int)/\(sliceBounds lo hi none n).2.1=((HT.sIx n n hi:Nat):Int)/\(sliceBounds lo hi none n).2.2=1:=by
 refine⟨?_,?_,rfl⟩
 ·cases lo with
  |none=>simp[sliceBounds,HT.sIx]
  |some i =>
   simp only[sliceBounds,HT.sIx,Option.getD_none,show(1:Int)>0 by decide,if_true]
   by_cases h:i<0
   ·simp only[h,if_true]<;>omega
   ·simp only[h,if_false]<;>omega
 ·cases hi with
  |none=>simp[sliceBounds,HT.sIx]
  |some i =>
   simp only[sliceBounds,HT.sIx,Option.getD_none,show(1:Int)>0 by decide,if_true]
   by_cases h:i<0
   ·simp only[h,if_true]<;>omega
   ·simp only[h,if_false]<;>omega
theorem z4w(its:List Value)(lo hi:Option Int):slicePick its.toArray lo hi none=((its.drop (HT.sIx its.length 0 lo)).take (HT.sIx its.length its.length hi-HT.sIx its.length 0 lo)).toArray:=by
 obtain⟨h1,h2,h3⟩:=slice_bounds lo hi its.toArray.size
 unfold slicePick
 rw[h1,h2,h3]
 simp only[sliceRange_one,pick_run,List.size_toArray]<;>rfl
def rSlL(K:PySem.W.Frag):V->Option Int->Option Int->Hp->VK->Prop:=λx lo hi H Q=>∃a xs,x= .ref a/\SqL K H a xs/\∀p,H p=none->Q (.ref p) (upd H p (.lst (cutV xs lo hi)))
theorem sl_list:SlR X (rSlL X.K):=by
 intro pins s σ H x v vl vu lo hi sl Q I rx hs pl pu h
 obtain⟨a,xs,rfl,hx,q⟩:=h
 cases rx
 obtain⟨its,r,ht,hz⟩:=I.list hx
 have hlen:=r.length
 refine⟨"list",_,slot_list_getitem.lookup,ht.isList.typeIs,?_⟩
 refine wpAny_getItem_list_slice ht.isList hs pl pu .none (by simp) ?_ (by rw[List.size_toArray]<;>omega)
 rw[z4w,←hlen]
 refine⟨.ref s.heap.objs.size,_,I.laid (t':=s.toks) (o:=.lst (cutV xs lo hi)) (λb ob q=>Heap.get?_push_of_some _ q) (Nat.le_refl _) ?_,rfl,q _ (I.hok.fresh (Nat.le_refl _))⟩
 exact⟨Nat.le_trans (z3f xs lo hi) hz,_,0,(r.drop (HT.sIx xs.length 0 lo)).take (HT.sIx xs.length xs.length hi-HT.sIx xs.length 0 lo),Heap.get?_push_size _ rfl⟩
def q8k:V->Bool
 | .non=>true
 | .bl _=>true
 | .int _=>true
 | .str _=>true
 |_=>false
def eqV:V->V->Bool
 | .non,.non=>true
 | .bl a,.bl b=>a==b
 | .bl a,.int b=>(if a then 1 else 0)==b
 | .int a,.bl b=>a==(if b then 1 else 0)
 | .int a,.int b=>a==b
 | .str a,.str b=>a==b
 |_,_=>false
theorem eqAt_V{A:Around}{s:Shared}{y x:V}{u v:Value}(ry:RelV y u)(rx:RelV x v)(fy:q8k y=true)(fx:q8k x=true):SeqAt.EqAt A s u v (eqV y x):=by
 cases y with
 |non =>
  cases ry
  cases x with
  |non=>cases rx;exact SeqAt.EqAt.same _
  |bl b=>cases rx;exact SeqAt.EqAt.none_bool b
  |int b=>obtain⟨t,rfl⟩:=rx;exact SeqAt.EqAt.none_int b t
  |str b=>obtain⟨t,rfl⟩:=rx;exact SeqAt.EqAt.none_str b t
  |_=>exact absurd (show false=true from fx) Bool.false_ne_true
 |bl a =>
  cases ry
  cases x with
  |non=>cases rx;exact SeqAt.EqAt.bool_none a
  |bl b=>cases rx;exact SeqAt.EqAt.bool_bool a b
  |int b=>obtain⟨t,rfl⟩:=rx;exact SeqAt.EqAt.bool_int a b t
  |str b=>obtain⟨t,rfl⟩:=rx;exact SeqAt.EqAt.bool_str a b t
  |_=>exact absurd (show false=true from fx) Bool.false_ne_true
 |int a =>
  obtain⟨t',rfl⟩:=ry
  cases x with
  |non=>cases rx;exact SeqAt.EqAt.int_none a t'
  |bl b=>cases rx;exact SeqAt.EqAt.int_bool a t' b
  |int b=>obtain⟨t,rfl⟩:=rx;exact SeqAt.EqAt.int_int a t' b t
  |str b=>obtain⟨t,rfl⟩:=rx;exact SeqAt.EqAt.int_str a t' b t
  |_=>exact absurd (show false=true from fx) Bool.false_ne_true
 |str a =>
  obtain⟨t',rfl⟩:=ry
  cases x with
  |non=>cases rx;exact SeqAt.EqAt.str_none a t'
  |bl b=>cases rx;exact SeqAt.EqAt.str_bool a t' b
  |int b=>obtain⟨t,rfl⟩:=rx;exact SeqAt.EqAt.str_int a t' b t
  |str b=>obtain⟨t,rfl⟩:=rx;exact SeqAt.EqAt.str_str a t' b t
  |_=>exact absurd (show false=true from fx) Bool.false_ne_true
 |_=>exact absurd (show false=true from fy) Bool.false_ne_true
def eqU(x:V)(u:Value):Bool:=match u with
 | .none=>eqV .non x
 | .bool b=>eqV (.bl b) x
 | .int i _=>eqV (.int i) x
 | .str z _=>eqV (.str z) x
 |_=>false
theorem eqU_of{x y:V}{u:Value}(r:RelV y u)(f:q8k y=true):eqU x u=eqV y x:=by
 cases y with
 |non=>cases r;rfl
 |bl b=>cases r;rfl
 |int i=>obtain⟨t,rfl⟩:=r;rfl
 |str z=>obtain⟨t,rfl⟩:=r;rfl
 |_=>exact absurd (show false=true from f) Bool.false_ne_true
theorem any_eqU{x:V}:∀{xs:List V} {us:List Value},Vals xs us->xs.all q8k=true->us.any (eqU x)=xs.any λy=>eqV y x
 |_,_,.nil,_=>rfl
 |y::xs,u::us,.cons r t,f=>by
  rw[List.all_cons,Bool.and_eq_true]at f
  rw[List.any_cons,List.any_cons,eqU_of r f.1,any_eqU t f.2]
theorem z5w{A:Around}{s:Shared}{x:V}{v:Value}(rx:RelV x v)(fx:q8k x=true):∀{xs:List V} {us:List Value},Vals xs us->xs.all q8k=true->∀u∈us,SeqAt.EqAt A s u v (eqU x u)
 |_,_,.nil,_=>λu hu=>by cases hu
 |y::xs,u::us,.cons r t,f=>λu' hu=>by
  rw[List.all_cons,Bool.and_eq_true]at f
  rcases List.mem_cons.mp hu with rfl|hu
  ·rw[eqU_of r f.1];exact eqAt_V r rx f.1 fx
  ·exact z5w rx fx t f.2 u' hu
def inV(x:V)(xs:List V):Bool:=xs.any λy=>eqV y x
def rIn(K:PySem.W.Frag)(neg:Bool):R2:=λx y H Q=>∃p xs,y= .ref p/\(SqL K H p xs\/SqT K H p xs)/\q8k x=true/\xs.all q8k=true/\Q (.bl (if neg then !inV x xs else inV x xs)) H
theorem op_notIn_seq:OpR X (compareOp .NotIn) (rIn X.K true):=by
 intro pins s σ H x y v u Q I rx ry h
 obtain⟨p,xs,rfl,hq,fx,fs,q⟩:=h
 cases ry
 rcases hq with hq|hq
 ·obtain⟨its,r,pl,hz⟩:=I.list hq
  refine SeqAt.notIn_listAt (eqU x) pl.isList (λw hw=>z5w rx fx r fs w (by simpa using hw)) ⟨.bl _,H,I,rfl,?_⟩
  rw[show its.toArray.any (eqU x)=its.any (eqU x) by simp,any_eqU r fs]
  exact q
 ·obtain⟨its,r,pl,hz⟩:=I.tuple hq
  refine SeqAt.notIn_tupleAt (eqU x) pl (λw hw=>z5w rx fx r fs w (by simpa using hw)) ⟨.bl _,H,I,rfl,?_⟩
  rw[show its.toArray.any (eqU x)=its.any (eqU x) by simp,any_eqU r fs]
  exact q
theorem op_notIn_str:OpR X (compareOp .NotIn) (λx y H Q=>∃i j,x= .str i/\y= .str j/\Q (.bl (!(!(Builtin.Str.occurrences j i 0 j.length 1).isEmpty))) H):=by
 intro pins s σ H x y v u Q I rx ry h
 obtain⟨i,j,rfl,rfl,q⟩:=h
 obtain⟨t,rfl⟩:=rx
 obtain⟨t',rfl⟩:=ry
 exact notIn_str ⟨.bl _,H,I,rfl,q⟩
theorem call_list_of:z0w X (.type "list") (λxs H Q=>∃p ys,xs=[.ref p]/\(SqL X.K H p ys\/SqT X.K H p ys)/\∀l,H l=none->Q (.ref l) (upd H l (.lst ys))):=by
 intro pins s σ H xs us Q I r h
 obtain⟨p,ys,rfl,hq,q⟩:=h
 obtain⟨u,rfl,rx⟩:=z2c r
 cases rx
 have fin:∀(its:List Value),Vals ys its->ys.length<=sizeLine->∀(h':Heap) (c':Nat),(∀b o',s.heap.get? b=some o'->h'.get? b=some o') →
   h'.get? s.heap.objs.size=some { cls:=.type "list",dict:=none,data:=.seq its.toArray c',slots:= #[] }->EP X pins σ Q (.ref s.heap.objs.size) { s with heap:=h' }:=λits r' hz h' c' kp e =>
  ⟨.ref s.heap.objs.size,_,I.laid (t':=s.toks) kp (Nat.le_refl _) (show ObjOk X.prog X.w _ h' _ (.lst ys) from⟨hz,its,c',r',e⟩),rfl,q _ (I.hok.fresh (Nat.le_refl _))⟩
 rcases hq with hq|hq
 ·obtain⟨its,r',pl,hz⟩:=I.list hq
  have hlen:=r'.length
  obtain⟨o,ho,hc,n,hd⟩:=pl.isList
  exact call_list_seq p (.inl rfl) ho hc hd (λh' c' kp e=>fin its r' hz h' c' kp e) (by simp only[List.size_toArray]<;>omega)
 ·obtain⟨its,r',pl,hz⟩:=I.tuple hq
  have hlen:=r'.length
  obtain⟨o,ho,hc,n,hd⟩:=pl
  exact call_list_seq p (.inr rfl) ho hc hd (λh' c' kp e=>fin its r' hz h' c' kp e) (by simp only[List.size_toArray]<;>omega)
theorem q7i:z0w X (.type "tuple") (λxs H Q=>∃p ys,xs=[.ref p]/\((SqL X.K H p ys/\∀l,H l=none->Q (.ref l) (upd H l (.tup ys)))\/(SqT X.K H p ys/\Q (.ref p) H))):=by
 intro pins s σ H xs us Q I r h
 obtain⟨p,ys,rfl,h⟩:=h
 obtain⟨u,rfl,rx⟩:=z2c r
 cases rx
 rcases h with⟨hq,q⟩|⟨hq,q⟩
 ·obtain⟨its,r',pl,hz⟩:=I.list hq
  have hlen:=r'.length
  refine call_tuple_list pl.isList (λh' kp=>?_) (by simp only[List.size_toArray]<;>omega)
  have I1:Inv X pins σ H { s with heap:=h' }:=I.kept (t':=s.toks) kp
  have I2:Inv X pins σ (upd H h'.objs.size (.tup ys)) { s with heap:=h'.push { cls:=.type "tuple",data:=.seq its.toArray } } :=
   I1.laid (t':=s.toks) (λb o e=>Heap.get?_push_of_some _ e) (Nat.le_refl _) (show ObjOk X.prog X.w _ _ _ (.tup ys) from⟨hz,its,r',IsTup.new _ _⟩)
  exact⟨.ref h'.objs.size,_,I2,rfl,q _ (I1.hok.fresh (Nat.le_refl _))⟩
 ·obtain⟨its,r',pl,hz⟩:=I.tuple hq
  exact call_tuple_same pl ⟨.ref p,H,I,rfl,q⟩
def tyV(K:PySem.W.Frag)(T:String)(x:V)(H:Hp):Prop:=match x with
 | .str _=>T= "str"
 | .int _=>T= "int"
 | .ref p=>(T= "list" /\∃xs,SqL K H p xs)\/(T= "tuple" /\∃o,K.lookup p=some o/\o.cls= .type "tuple" /\o.dict=none) ∨
   (T= "dict" /\((∃kvs,H p=some (.dK kvs))\/∃kvs,H p=some (.dT kvs)))\/(T= "set" /\∃S n,H p=some (.set S n))
 |_=>False
theorem tyV_is{pins:List (Addr×Obj)}{σ:St}{H:Hp}{s:Shared}{T:String}{x:V}{v:Value}(I:Inv X pins σ H s)(r:RelV x v)(ty:tyV X.K T x H):
  s.TypeIs v T/\∀a,v= .ref a->∃ob,s.heap.get? a=some ob/\ob.dict=none:=by
 cases x with
 |str z =>
  obtain⟨t,rfl⟩:=r
  cases (show T= "str" from ty)
  exact⟨typeIs_str s z t,λ_ e=>nomatch e⟩
 |int i =>
  obtain⟨t,rfl⟩:=r
  cases (show T= "int" from ty)
  exact⟨typeIs_int s i t,λ_ e=>nomatch e⟩
 |ref p =>
  cases r
  rcases ty with⟨rfl,xs,hq⟩|⟨rfl,o,hk,hc,hd⟩|⟨rfl,hk⟩|⟨rfl,S,n,hk⟩
  ·obtain⟨its,_,pl,_⟩:=I.list hq
   refine⟨pl.isList.typeIs,λa e=>?_⟩
   cases e
   obtain⟨o,n,e,c,hd,_⟩:=pl
   exact⟨o,e,hd⟩
  ·refine⟨⟨o,I.kIn p o hk,hc⟩,λa e=>?_⟩
   cases e
   exact⟨o,I.kIn _ o hk,hd⟩
  ·have z:∃o,s.heap.get? p=some o/\o.ExactDict:=by
    rcases hk with⟨kvs,hk⟩|⟨kvs,hk⟩
    ·obtain⟨_,_,_,_,o,_,_,e,ex,_⟩:=I.hok p _ hk
     exact⟨o,e,ex⟩
    ·obtain⟨_,_,_,_,o,_,_,e,ex,_⟩:=I.hok p _ hk
     exact⟨o,e,ex⟩
   obtain⟨o,e,ex⟩:=z
   refine⟨⟨o,e,ex.1⟩,λa e2=>?_⟩
   cases e2
   exact⟨o,e,ex.2.1⟩
  ·obtain⟨o,_,_,_,e,ex,_⟩:=I.hok p _ hk
   refine⟨⟨o,e,ex.1⟩,λa e2=>?_⟩
   cases e2
   exact⟨o,e,ex.2.1⟩
 |_=>exact False.elim ty
def tBM0(K:PySem.W.Frag)(T:String)(r:V->List V->Hp->VK->Prop)(to:TE):TE:=λσ H Q=>to σ H λx H1=>tyV K T x H1/\r x [] H1 Q
def tBM(K:PySem.W.Frag)(T:String)(r:V->List V->Hp->VK->Prop)(to:TE)(t:TA):TE:=λσ H Q=>to σ H λx H1=>tyV K T x H1/\t σ H1 λxs H2=>r x xs H2 Q
variable{o e:Expr}{es:List Expr}{to:TE}{t:TA}{name:Str}{apos cpos:Pos}{T id:String}{r:V->List V->Hp->VK->Prop}
theorem pe_bm0 (pa:PlainAttrs T) (slot:Slot T name id) (hty:typeOf (.builtin id)=pure (.type "method_descriptor")) (hm:MtR X id r) (ho:PE X o to)
  (hbase:attributeBase o name X.env (eval o X.env)=eval o X.env:=by rfl) (hline:(apos.endLine==cpos.line)=true:=by rfl):PE X (.Call (.Attribute o name apos) [] [] cpos) (tBM0 X.K T r to):=by
 intro pins s σ H Q I h
 refine wpAny_Call_method0_late hbase hline (thn (ho pins s σ H _ I h) λv s1 ⟨x,H1,I1,r1,ty,q1⟩=>?_)
 obtain⟨h1,h2⟩:=tyV_is I1 r1 ty
 exact⟨T,id,pa,slot,hty,h1,h2,Calls.callWith_builtin rfl (PySem.evalArgs_none (hm pins s1 σ H1 x [] v [] Q I1 r1 .nil q1))⟩
theorem z0i (pa:PlainAttrs T) (slot:Slot T name id) (hty:typeOf (.builtin id)=pure (.type "method_descriptor")) (hm:MtR X id r) (ho:PE X o to) (ha:PA X (e::es) t)
  (hbase:attributeBase o name X.env (eval o X.env)=eval o X.env:=by rfl)
  (hfew:((backTo cpos (starEach (e::es) X.env)).all (λx=>!x.1)&&(backToKw cpos (keywordEach [] X.env)).all (λx=>x.1.isSome)
   && decide ((e::es).length+([]:List Keyword).length+(if([]:List Keyword).isEmpty then 0 else 1)<30))=true:=by rfl)
  (hline:(apos.endLine==cpos.line)=true:=by rfl) (hs:starEach (e::es) X.env=(false,eval e X.env)::starEach es X.env:=by rfl) (hplain:(backTo cpos (starEach es X.env)).any (·.1)=false:=by rfl) :
  PE X (.Call (.Attribute o name apos) (e::es) [] cpos) (tBM X.K T r to t):=by
 intro pins s σ H Q I h
 refine wpAny_Call_method_late hbase hfew hline rfl (thn (ho pins s σ H _ I h) λv s1 ⟨x,H1,I1,r1,ty,q1⟩=>?_)
 obtain⟨h1,h2⟩:=tyV_is I1 r1 ty
 refine⟨T,id,pa,slot,hty,h1,h2,?_⟩
 have hA:=ha cpos pins s1 σ H1 _ I1 q1
 rw[hs]at hA ⊢
 refine Calls.callWith_builtin (by show(false||(backTo cpos (starEach es X.env)).any (·.1))=false;rw[hplain]<;>rfl) (Calls.evalArgs_plain ?_)
 exact thn hA λus s2 ⟨vs,H2,I2,r2,q2⟩=>hm pins s2 σ H2 x vs v us Q I2 r1 r2 q2
end
end L2
namespace L2
open PySem PySem.Spec PyProof.Rows
def MtM(X:Cx)(id:String)(r:V->List V->Hp->VK->Prop):Prop :=
 ∀(pins:List (Addr×Obj)) (s:Shared) (σ:St) (H:Hp) (x:V) (xs:List V) (v:Value) (us:List Value) (Q:VK),Inv X pins σ H s->RelV x v->Vals xs us->r x xs H Q →
  wpAny (model X.prog X.w) X.A (call (.builtin id) (v::us)) (EP X pins σ Q) X.xe s
theorem Vals.one:∀{x:V} {us:List Value},Vals [x] us->∃u,us=[u]/\RelV x u
 |_,_,.cons r .nil=>⟨_,rfl,r⟩
theorem Vals.zero:∀{us:List Value},Vals [] us->us=[]
 |_,.nil=>rfl
theorem Vals.reverse{xs:List V}{us:List Value}(h:Vals xs us):Vals xs.reverse us.reverse:=by
 induction h with
 |nil=>exact .nil
 |cons r t ih=>rw[List.reverse_cons,List.reverse_cons];exact Vals.append ih (.cons r .nil)
theorem Vals.rep{xs:List V}{us:List Value}(h:Vals xs us):∀k:Nat,Vals (List.replicate k xs).flatten (List.replicate k us).flatten
 | 0=>.nil
 |k+1=>by
  rw[List.replicate_succ,List.replicate_succ,List.flatten_cons,List.flatten_cons]
  exact Vals.append h (Vals.rep h k)
theorem foldl_rep(its:List Value):∀(k:Nat) (acc:List Value),
  List.foldl (λx1 x2=>x1++x2) acc.toArray (List.replicate k its.toArray)=(acc++(List.replicate k its).flatten).toArray
 | 0,acc=>by simp
 |k+1,acc=>by
  have e:acc.toArray++its.toArray=(acc++its).toArray:=by simp
  have e2:(acc++its)++(List.replicate k its).flatten=acc++(List.replicate (k+1) its).flatten:=by
   rw[List.replicate_succ,List.flatten_cons,List.append_assoc]
  rw[←e2,←foldl_rep its k (acc++its),←e,List.replicate_succ,List.foldl_cons]
section
variable{X:Cx}{pins:List (Addr×Obj)}{σ:St}{H:Hp}{s:Shared}{l b:Addr}{xs ys zs:List V}
theorem Inv.lset{its its':List Value}{n:Nat}{f:Array Value->Array Value}{t':Nat}(I:Inv X pins σ H s)(hH:H l=some (.lst xs))
  (e:s.heap.get? l=some { cls:=.type "list",data:=.seq its.toArray n }) (hf:f its.toArray=its'.toArray) (hv:Vals ys its') (hz:ys.length<=sizeLine) (ht:s.toks<=t':=by first|exact Nat.le_refl _|exact Nat.le_succ _|assumption|omega) :
  Inv X pins σ (upd H l (.lst ys)) { s with heap:=s.heap.update l (Obj.mapSeq f),toks:=t' }:=by
 have q:=PySem.IsL.update e f
 rw[hf]at q
 refine I.write (x:=l) (e:=l) (by rw[hH];exact trivial) (.inl rfl) (λb' u hb hu=>(Heap.get?_update_other s.heap (Obj.mapSeq f) (Ne.symm hb)).trans hu) ⟨_,q⟩ ?_
 exact⟨hz,its',_,hv,q⟩
theorem Inv.lnew{its:List Value}{t':Nat}(I:Inv X pins σ H s)(hv:Vals ys its)(hz:ys.length<=sizeLine)(ht:s.toks<=t':=by first|exact Nat.le_refl _|exact Nat.le_succ _|assumption|omega):
  Inv X pins σ (upd H s.heap.objs.size (.lst ys)) { s with heap:=s.heap.push { cls:=.type "list",data:=.seq its.toArray },toks:=t' } :=
 I.laid (λ_ _ q=>Heap.get?_push_of_some _ q) (Nat.le_refl _) ⟨hz,its,0,hv,Heap.get?_push_size _ rfl⟩
theorem Inv.fresh(I:Inv X pins σ H s):H s.heap.objs.size=none:=I.hok.fresh (Nat.le_refl _)
theorem Inv.lstM(I:Inv X pins σ H s)(hH:H l=some (.lst xs)):xs.length<=sizeLine/\∃(its:List Value) (n:Nat),Vals xs its/\xs.length=its.length/\s.heap.get? l=some { cls:=.type "list",data:=.seq its.toArray n }:=by
 obtain⟨z,its,n,r,e⟩:=I.hok l _ hH
 exact⟨z,its,n,r,r.length,e⟩
theorem notLongL{n:Nat}(h:n<=sizeLine):Builtin.List.listTooLong n=false:=by
 unfold Builtin.List.listTooLong
 exact decide_eq_false (by omega)
end
section
variable{X:Cx}
def rAppend:V->List V->Hp->VK->Prop:=λx vs H Q=>∃l xs y,x= .ref l/\vs=[y]/\H l=some (.lst xs)/\xs.length<sizeLine/\Q .non (upd H l (.lst (xs++[y])))
theorem q2v:MtM X "list.append" rAppend:=by
 intro pins s σ H x vs v us Q I rx rv h
 obtain⟨l,xs,y,rfl,rfl,hH,hz,q⟩:=h
 cases rx
 obtain⟨u,rfl,ru⟩:=rv.one
 obtain⟨z,its,n,r,hl,e⟩:=I.lstM hH
 refine call_meets F.slot_list_append ⟨_,e,rfl⟩ F.entry_list_append (F.args_list_append_2 _ _) (PySem.list_append l its.toArray n u (by rw[List.size_toArray];omega)) ⟨e,?_⟩
 refine⟨.non,_,I.lset (its':=its++[u]) hH e (by simp) (r.append (.cons ru .nil)) ?_,rfl,q⟩
 rw[List.length_append,List.length_singleton]
 omega
def rExtend:V->List V->Hp->VK->Prop:=λx vs H Q=>∃l b xs zs,x= .ref l/\vs=[.ref b]/\H l=some (.lst xs)/\H b=some (.lst zs)/\xs.length+zs.length<=sizeLine/\Q .non (upd H l (.lst (xs++zs)))
theorem mt_extend:MtM X "list.extend" rExtend:=by
 intro pins s σ H x vs v us Q I rx rv h
 obtain⟨l,b,xs,zs,rfl,rfl,hH,hB,hz,q⟩:=h
 cases rx
 obtain⟨u,rfl,ru⟩:=rv.one
 cases ru
 obtain⟨z,its,n,r,hl,e⟩:=I.lstM hH
 obtain⟨z2,its2,n2,r2,hl2,e2⟩:=I.lstM hB
 have hsz:its.toArray.size+its2.toArray.size<=sizeLine:=by rw[List.size_toArray,List.size_toArray];omega
 have hlong:¬(!its.toArray.isEmpty&&Builtin.List.listTooLong (its.toArray.size+its2.toArray.size))=true:=by
  rw[notLongL hsz,Bool.and_false]
  exact Bool.false_ne_true
 refine call_meets F.slot_list_extend ⟨_,e,rfl⟩ F.entry_list_extend (F.args_list_extend_2 _ _)
  (AutoSeq1.list_extend_list_list_0 l its.toArray n b its2.toArray n2 hlong (by rw[List.size_toArray];omega) (by omega)) ⟨e,e2,?_⟩
 refine⟨.non,_,I.lset (its':=its++its2) hH e (by simp) (r.append r2) ?_,rfl,q⟩
 rw[List.length_append]
 omega
def rReverse:V->List V->Hp->VK->Prop:=λx vs H Q=>∃l xs,x= .ref l/\vs=[]/\H l=some (.lst xs)/\Q .non (upd H l (.lst xs.reverse))
theorem z4j:MtM X "list.reverse" rReverse:=by
 intro pins s σ H x vs v us Q I rx rv h
 obtain⟨l,xs,rfl,rfl,hH,q⟩:=h
 cases rx
 have hus:=rv.zero
 subst hus
 obtain⟨z,its,n,r,hl,e⟩:=I.lstM hH
 refine call_meets F.slot_list_reverse ⟨_,e,rfl⟩ F.entry_list_reverse (F.args_list_reverse_1 _) (AutoSeq1.list_reverse_list_0 l its.toArray n (by rw[List.size_toArray];omega)) ⟨e,?_⟩
 refine⟨.non,_,I.lset (its':=its.reverse) hH e (by simp) r.reverse ?_,rfl,q⟩
 rw[List.length_reverse]
 omega
def rClear:V->List V->Hp->VK->Prop:=λx vs H Q=>∃l xs,x= .ref l/\vs=[]/\H l=some (.lst xs)/\Q .non (upd H l (.lst []))
theorem mt_clear:MtM X "list.clear" rClear:=by
 intro pins s σ H x vs v us Q I rx rv h
 obtain⟨l,xs,rfl,rfl,hH,q⟩:=h
 cases rx
 have hus:=rv.zero
 subst hus
 obtain⟨z,its,n,r,hl,e⟩:=I.lstM hH
 refine call_meets F.slot_list_clear ⟨_,e,rfl⟩ F.entry_list_clear (F.args_list_clear_1 _) (AutoSeq1.list_clear_list_0 l its.toArray n (by rw[List.size_toArray];omega)) ⟨e,?_⟩
 exact⟨.non,_,I.lset (its':=[]) (ys:=[]) hH e rfl .nil (Nat.zero_le _),rfl,q⟩
def rCat:R2:=λx y H Q=>∃l b xs zs,x= .ref l/\y= .ref b/\H l=some (.lst xs)/\H b=some (.lst zs)/\xs.length+zs.length<=sizeLine/\∀p,H p=none->Q (.ref p) (upd H p (.lst (xs++zs)))
theorem op_cat:OpR X (binaryOp .Add) rCat:=by
 intro pins s σ H x y v u Q I rx ry h
 obtain⟨l,b,xs,zs,rfl,rfl,hH,hB,hz,q⟩:=h
 cases rx
 cases ry
 obtain⟨z,its,n,r,hl,e⟩:=I.lstM hH
 obtain⟨z2,its2,n2,r2,hl2,e2⟩:=I.lstM hB
 refine PySem.P.add_list e e2 ?_ (by rw[List.size_toArray,List.size_toArray];omega)
 have ea:its.toArray++its2.toArray=(its++its2).toArray:=by simp
 rw[ea]
 exact⟨.ref _,_,I.lnew (t':=s.toks) (r.append r2) (by rw[List.length_append];omega),rfl,q _ I.fresh⟩
def rRep:R2:=λx y H Q=>∃l k xs,x= .ref l/\y= .int k/\H l=some (.lst xs)/\ -(2 ^ 63)<=k/\k<2 ^ 63/\xs.length*k.toNat<=sizeLine ∧
 ∀p,H p=none->Q (.ref p) (upd H p (.lst (List.replicate k.toNat xs).flatten))
theorem len_rep{α:Type}(xs:List α)(k:Nat):(List.replicate k xs).flatten.length=k*xs.length:=by
 induction k with
 |zero=>simp
 |succ k ih=>rw[List.replicate_succ,List.flatten_cons,List.length_append,ih,Nat.succ_mul,Nat.add_comm]
theorem op_rep:OpR X (binaryOp .Mult) rRep:=by
 intro pins s σ H x y v u Q I rx ry h
 obtain⟨l,k,xs,rfl,rfl,hH,h1,h2,hz,q⟩:=h
 cases rx
 obtain⟨t,rfl⟩:=ry
 obtain⟨z,its,n,r,hl,e⟩:=I.lstM hH
 have hlen:its.toArray.size*k.toNat<=sizeLine:=by rw[List.size_toArray,←hl];exact hz
 have hcap:¬its.toArray.size*k.toNat>(2 ^ 63-1) / 8:=by
  have:(sizeLine:Nat)<=(2 ^ 63-1) / 8:=by decide
  omega
 have hfit:¬(!Builtin.List.listFitsIndex k)=true:=by
  rw[fitsIndex_both h1 h2]
  exact Bool.false_ne_true
 have hlong:¬Builtin.List.listTooLong (its.toArray.size*k.toNat)=true:=by
  rw[notLongL hlen]
  exact Bool.false_ne_true
 have hnew:List.foldl (λx1 x2=>x1++x2) #[] (List.replicate (if its.toArray.isEmpty=true then 0 else k.toNat) its.toArray)=(List.replicate k.toNat its).flatten.toArray:=by
  have f0:∀m:Nat,List.foldl (λx1 x2=>x1++x2) #[] (List.replicate m its.toArray)=(List.replicate m its).flatten.toArray:=λm=>by
   have:=foldl_rep its m []
   rw[List.nil_append]at this
   exact this
  rw[f0]
  cases its with
  |nil=>simp
  |cons a r'=>rw[if_neg (by simp)]
 refine wpAny_binaryOp_repeat_ref (T:= "list") (U:= "int") (by decide) ⟨_,e,rfl⟩ (λs'=>typeIs_int s' k t) noFill_list_mul F.fills_int_mul F.slot_int_rmul repeat_list F.slot_int_index.lookup
  (call_meets F.slot_int_rmul (typeIs_int s k t) F.entry_int_rmul (F.args_int_rmul_2 _ _) (int___rmul___int_list k t l its.toArray n)
   ⟨e,rfl,⟨_,e,rfl⟩,call_meets F.slot_list_mul ⟨_,e,rfl⟩ F.entry_list_mul (F.args_list_mul_2 _ _) (AutoListH.list___mul___list_int_3 l its.toArray n k t hfit hcap hlong) ⟨e,?_⟩⟩)
 rw[hnew]
 exact⟨.ref _,_,I.lnew (t':=s.toks) (r.rep k.toNat) (by rw[len_rep,Nat.mul_comm];exact hz),rfl,q _ I.fresh⟩
end
section
variable{prog:Program}{w:World}{A:Around}{E:Value->Shared->Prop}{s:Shared}
end
section
variable{X:Cx}
end
end L2
namespace L2
open PySem PySem.Spec PyProof.Rows
section
variable{κ:Type}[DecidableEq κ]
def q7n(kvs:List (κ×V))(k:κ):Option V:=(kvs.find? λkv=>decide (kv.1=k)).map (·.2)
def putK(kvs:List (κ×V))(k:κ)(v:V):List (κ×V) :=
 if(kvs.any λkv=>decide (kv.1=k))=true then kvs.map (λkv=>if kv.1=k then(kv.1,v)else kv)else kvs++[(k,v)]
theorem q1y{p:κ×V}{r:List (κ×V)}{k:κ}(e:p.1=k):q7n (p::r) k=some p.2:=by simp[q7n,List.find?_cons,e]
theorem q1z{p:κ×V}{r:List (κ×V)}{k:κ}(e:¬p.1=k):q7n (p::r) k=q7n r k:=by simp[q7n,List.find?_cons,e]
theorem z1o(k:κ):∀kvs:List (κ×V),(kvs.any λkv=>decide (kv.1=k))=(q7n kvs k).isSome
 |[]=>rfl
 |p::r=>by
  rw[List.any_cons]
  by_cases e:p.1=k
  ·simp only[q1y e,decide_eq_true e,Bool.true_or,Option.isSome_some]
  ·rw[q1z e,decide_eq_false e,Bool.false_or];exact z1o k r
theorem valV_map(k j:κ)(y:V):∀kvs:List (κ×V),q7n (kvs.map λkv=>if kv.1=k then(kv.1,y)else kv) j=(q7n kvs j).map λx=>if j=k then y else x
 |[]=>rfl
 |p::r=>by
  have ih:=valV_map k j y r
  rw[List.map_cons]
  by_cases h:p.1=k
  ·rw[if_pos h]
   by_cases e:p.1=j
   ·rw[q1y (p:=(p.1,y)) e,q1y e,Option.map_some,if_pos (e.symm.trans h)]
   ·rw[q1z (p:=(p.1,y)) e,q1z e,ih]
  ·rw[if_neg h]
   by_cases e:p.1=j
   ·rw[q1y (p:=p) e,q1y e,Option.map_some,if_neg (λz=>h (e.trans z))]
   ·rw[q1z (p:=p) e,q1z e,ih]
theorem valV_snoc(k j:κ)(y:V):∀kvs:List (κ×V),q7n kvs k=none->q7n (kvs++[(k,y)]) j=if j=k then some y else q7n kvs j
 |[],_=>by
  by_cases e:k=j
  ·rw[if_pos e.symm];exact q1y (p:=(k,y)) e
  ·rw[if_neg (λz=>e z.symm)];exact q1z (p:=(k,y)) e
 |p::r,hn=>by
  rw[List.cons_append]
  have hk:¬p.1=k:=λz=>by rw[q1y z]at hn;cases hn
  rw[q1z hk]at hn
  have ih:=valV_snoc k j y r hn
  by_cases e:p.1=j
  ·rw[q1y e,q1y e,if_neg (λz=>hk (e.trans z))]
  ·rw[q1z e,q1z e,ih]
theorem z1n(kvs:List (κ×V))(k j:κ)(y:V):q7n (putK kvs k y) j=if j=k then some y else q7n kvs j:=by
 unfold putK
 by_cases a:(kvs.any λkv=>decide (kv.1=k))=true
 ·rw[if_pos a,valV_map]
  rw[z1o]at a
  by_cases e:j=k
  ·obtain⟨x,hx⟩:=Option.isSome_iff_exists.mp a
   rw[if_pos e,e,hx,Option.map_some,if_pos rfl]
  ·rw[if_neg e]
   cases q7n kvs j with
   |none=>rfl
   |some x=>rw[Option.map_some,if_neg e]
 ·rw[if_neg a]
  refine valV_snoc k j y kvs ?_
  rw[z1o]at a
  cases q:q7n kvs k with
  |none=>rfl
  |some x=>rw[q]at a;exact(a rfl).elim
theorem q5r(kvs:List (κ×V))(k:κ)(v:V):(putK kvs k v).length<=kvs.length+1:=by
 unfold putK
 split
 ·rw[List.length_map];omega
 ·rw[List.length_append,List.length_cons,List.length_nil];omega
theorem RelO.isSome_eq{o:Option V}{u:Option Value}(r:RelO o u):o.isSome=u.isSome:=by
 cases o with
 |none=>cases u with
  |none=>rfl
  |some _=>exact(show False from r).elim
 |some _=>cases u with
  |none=>exact(show False from r).elim
  |some _=>rfl
theorem KV.val{kvs:List (κ×V)}{vs:List (κ×Value)}(r:KV kvs vs)(k:κ):RelO (q7n kvs k) (valueAt vs k):=by
 unfold KV at r
 induction r with
 |nil=>exact True.intro
 | @cons p q ps qs h t ih =>
  obtain⟨h1,h2⟩:=h
  by_cases e:p.1=k
  ·have e':q.1=k:=h1.symm.trans e
   have b:valueAt (q::qs) k=some q.2:=by simp[valueAt,List.find?_cons,e']
   rw[q1y e,b];exact h2
  ·have e':¬q.1=k:=λz=>e (h1.trans z)
   have b:valueAt (q::qs) k=valueAt qs k:=by simp[valueAt,List.find?_cons,e']
   rw[q1z e,b];exact ih
theorem KV.any{kvs:List (κ×V)}{vs:List (κ×Value)}(r:KV kvs vs)(k:κ):(kvs.any λkv=>decide (kv.1=k))=vs.any λkv=>decide (kv.1=k):=by
 unfold KV at r
 induction r with
 |nil=>rfl
 |cons h t ih=>rw[List.any_cons,List.any_cons,ih,h.1]
theorem KV.repl{kvs:List (κ×V)}{vs:List (κ×Value)}(r:KV kvs vs)(k:κ){y:V}{u:Value}(ry:RelV y u):
  KV (kvs.map λkv=>if kv.1=k then(kv.1,y)else kv) (vs.map λkv=>if kv.1=k then(kv.1,u)else kv):=by
 unfold KV at r ⊢
 induction r with
 |nil=>exact .nil
 | @cons p q ps qs h t ih =>
  rw[List.map_cons,List.map_cons]
  refine .cons ?_ ih
  obtain⟨h1,h2⟩:=h
  by_cases e:p.1=k
  ·rw[if_pos e,if_pos (h1.symm.trans e)];exact⟨h1,ry⟩
  ·rw[if_neg e,if_neg (λz=>e (h1.trans z))];exact⟨h1,h2⟩
theorem KV.put{kvs:List (κ×V)}{vs:List (κ×Value)}(r:KV kvs vs)(k:κ){y:V}{u:Value}(ry:RelV y u):KV (putK kvs k y) (stored vs k u):=by
 unfold putK stored
 rw[r.any k]
 by_cases e:(vs.any λkv=>decide (kv.1=k))=true
 ·rw[if_pos e,if_pos e];exact r.repl k ry
 ·rw[if_neg e,if_neg e];exact Paired.snoc r ⟨rfl,ry⟩
theorem KV.length{kvs:List (κ×V)}{vs:List (κ×Value)}(r:KV kvs vs):kvs.length=vs.length:=Paired.length r
end
theorem kV_is{P:Program}{w:World}{k:Key}{u:Value}(r:RelV (kV k) u):(q3z P w).is k u=true:=by
 cases k with
 |inl i=>obtain⟨t,e⟩:=(show ∃t,u=Value.int i t from r);subst e;exact mixKind_int P w i t
 |inr x=>obtain⟨t,e⟩:=(show ∃t,u=Value.str x t from r);subst e;exact q8z P w x t
theorem items_are{P:Program}{w:World}:∀{ks:List Key} {us:List Value},Vals (ks.map kV) us->ItemsAre (q3z P w) ks us
 |[],_,r=>by rw[List.map_nil]at r;cases r;exact .nil
 |k::ks,_,r=>by
  rw[List.map_cons]at r
  cases r with
  |cons h t=>exact .cons (kV_is h) (items_are t)
abbrev KT(H:Hp):List (List Key×V)->List (List Key×Addr×Value)->Prop:=Paired λp q=>p.1=q.1/\H q.2.1=some (.tup (p.1.map kV))/\RelV p.2 q.2.2
theorem KT.val{H:Hp}{kvs:List (List Key×V)}{xs:List (List Key×Addr×Value)}(r:KT H kvs xs)(k:List Key):RelO (q7n kvs k) ((atKey xs k).map (·.2)):=by
 induction r with
 |nil=>exact True.intro
 | @cons p q ps qs h t ih =>
  obtain⟨h1,_,h2⟩:=h
  by_cases e:p.1=k
  ·have e':q.1=k:=h1.symm.trans e
   have b:atKey (q::qs) k=some q.2:=by simp[atKey,List.find?_cons,e']
   rw[q1y e,b];exact h2
  ·have e':¬q.1=k:=λz=>e (h1.trans z)
   have b:atKey (q::qs) k=atKey qs k:=by simp[atKey,List.find?_cons,e']
   rw[q1z e,b];exact ih
theorem KT.repl{H:Hp}{kvs:List (List Key×V)}{xs:List (List Key×Addr×Value)}(r:KT H kvs xs)(k:List Key){y:V}{u:Value}(ry:RelV y u):
  KT H (kvs.map λkv=>if kv.1=k then(kv.1,y)else kv) (xs.map (putAt k u)):=by
 induction r with
 |nil=>exact .nil
 | @cons p q ps qs h t ih =>
  rw[List.map_cons,List.map_cons]
  refine .cons ?_ ih
  obtain⟨h1,h2,h3⟩:=h
  unfold putAt
  by_cases e:p.1=k
  ·rw[if_pos e,if_pos (h1.symm.trans e)];exact⟨h1,h2,ry⟩
  ·rw[if_neg e,if_neg (λz=>e (h1.trans z))];exact⟨h1,h2,h3⟩
theorem KT.put{H:Hp}{kvs:List (List Key×V)}{xs:List (List Key×Addr×Value)}(r:KT H kvs xs)(k:List Key){b:Addr}{y:V}{u:Value}(hb:H b=some (.tup (k.map kV)))(ry:RelV y u):
  KT H (putK kvs k y) (storedH xs k b u):=by
 have e:(kvs.any λkv=>decide (kv.1=k))=(atKey xs k).isSome:=by
  rw[z1o,(r.val k).isSome_eq,Option.isSome_map]
 unfold putK storedH
 rw[e]
 by_cases q:(atKey xs k).isSome=true
 ·rw[if_pos q,if_pos q];exact r.repl k ry
 ·rw[if_neg q,if_neg q];exact Paired.snoc r ⟨rfl,hb,ry⟩
theorem KT.keeps{H H':Hp}{kvs:List (List Key×V)}{xs:List (List Key×Addr×Value)}(r:KT H kvs xs)(ht:∀b ys,H b=some (.tup ys)->H' b=some (.tup ys)):KT H' kvs xs :=
 Paired.mapP r λ_ _ z=>⟨z.1,ht _ _ z.2.1,z.2.2⟩
section
variable{P:Program}{w:World}{H:Hp}{h:Heap}{a:Addr}
theorem rd_of{u:HO}(ok:HOk P w H h)(e:Rd H a u):ObjOk P w H h a u:=e.ok ok
theorem dk_rd{kvs:List (Key×V)}(ok:HOk P w H h)(e:Rd H a (.dK kvs)):kvs.length<=sizeLine/\(a==sysModules)=false/\∃vs,KV kvs vs/\h.DictOf (q3z P w) a vs :=
 show ObjOk P w H h a (.dK kvs) from rd_of ok e
theorem dk_of{kvs:List (Key×V)}(ok:HOk P w H h)(e:H a=some (.dK kvs)):kvs.length<=sizeLine/\(a==sysModules)=false/\∃vs,KV kvs vs/\h.DictOf (q3z P w) a vs:=dk_rd ok (.inl e)
theorem key_of{ks:List Key}(ok:HOk P w H h)(e:H a=some (.tup (ks.map kV))):(tupleKind (q3z P w)).is h ks a:=by
 obtain⟨_,its,r,o,h1,h2,n,h3⟩:=(show ObjOk P w H h a (.tup (ks.map kV)) from ok a _ e)
 exact⟨o,its.toArray,n,h1,h2,h3,by simpa using items_are r⟩
theorem dt_rd{kvs:List (List Key×V)}(ok:HOk P w H h)(e:Rd H a (.dT kvs)):kvs.length<=sizeLine/\(a==sysModules)=false ∧
  ∃xs,KT H kvs xs/\h.DictOfH (tupleKind (q3z P w)) a xs:=by
 obtain⟨z,y,xs,r,o,es,ep,h1,h2,h3,h4,h5⟩:=(show ObjOk P w H h a (.dT kvs) from rd_of ok e)
 refine⟨z,y,xs,r,o,es,ep,h1,h2,h3,h4,λx hx=>?_,h5⟩
 have all:∀{l:List (List Key×V)} {m:List (List Key×Addr×Value)},KT H l m->∀x∈m,(tupleKind (q3z P w)).is h x.1 x.2.1:=by
  intro l m q
  induction q with
  |nil=>intro x hx;exact nomatch hx
  | @cons p q ps qs hq t ih =>
   intro x hx
   rcases List.mem_cons.mp hx with e|hx
   ·subst e
    exact key_of ok (by rw[←hq.1];exact hq.2.1)
   ·exact ih x hx
 exact all r x hx
theorem dt_of{kvs:List (List Key×V)}(ok:HOk P w H h)(e:H a=some (.dT kvs)):kvs.length<=sizeLine/\(a==sysModules)=false ∧
  ∃xs,KT H kvs xs/\h.DictOfH (tupleKind (q3z P w)) a xs:=dt_rd ok (.inl e)
end
def DGet(H:Hp)(a:Addr)(y:V)(r:Option V):Prop :=
 (∃kvs k,Rd H a (.dK kvs)/\y=kV k/\r=q7n kvs k)\/∃kvs k b,Rd H a (.dT kvs)/\y= .ref b/\H b=some (.tup (k.map kV))/\r=q7n kvs k
def DPut(H:Hp)(a:Addr)(y v:V)(H':Hp):Prop :=
 (∃kvs k,H a=some (.dK kvs)/\y=kV k/\kvs.length<sizeLine/\H'=upd H a (.dK (putK kvs k v))) ∨
 ∃kvs k b,H a=some (.dT kvs)/\y= .ref b/\H b=some (.tup (k.map kV))/\kvs.length<sizeLine/\H'=upd H a (.dT (putK kvs k v))
theorem DGet.k{H:Hp}{a:Addr}{kvs:List (Key×V)}{k:Key}(e:H a=some (.dK kvs)):DGet H a (kV k) (q7n kvs k):=.inl ⟨kvs,k,.inl e,rfl,rfl⟩
theorem DGet.t{H:Hp}{a b:Addr}{kvs:List (List Key×V)}{k:List Key}(e:H a=some (.dT kvs))(eb:H b=some (.tup (k.map kV))):DGet H a (.ref b) (q7n kvs k):=.inr ⟨kvs,k,b,.inl e,rfl,eb,rfl⟩
theorem DPut.k{H:Hp}{a:Addr}{kvs:List (Key×V)}{k:Key}{v:V}(e:H a=some (.dK kvs))(hl:kvs.length<sizeLine):DPut H a (kV k) v (upd H a (.dK (putK kvs k v))):=.inl ⟨kvs,k,e,rfl,hl,rfl⟩
theorem DPut.t{H:Hp}{a b:Addr}{kvs:List (List Key×V)}{k:List Key}{v:V}(e:H a=some (.dT kvs))(eb:H b=some (.tup (k.map kV)))(hl:kvs.length<sizeLine):
  DPut H a (.ref b) v (upd H a (.dT (putK kvs k v))):=.inr ⟨kvs,k,b,e,rfl,eb,hl,rfl⟩
section
variable{X:Cx}{pins:List (Addr×Obj)}{σ:St}{H:Hp}{s:Shared}{a:Addr}{y v:V}{u r:Value}{o:Option V}{A:Around}{E:Value->Shared->Prop}
theorem Inv.big(I:Inv X pins σ H s):sysModules<s.heap.objs.size:=by
 have h:mainGlobals<s.heap.objs.size:=(I.mod.glob.keeps I.bk).lt
 exact Nat.lt_trans (by decide) h
theorem d_getItem{Q:Value->Shared->Prop}(hu:A.units+1<cLine)(I:Inv X pins σ H s)(g:DGet H a y (some v))(ry:RelV y u)(h:∀w' s',Inv X pins σ H s'->RelV v w'->Q w' s'):
  wpAny (model X.prog X.w) A (getItem (.ref a) u) Q E s:=by
 rcases g with⟨kvs,k,e,ey,l⟩|⟨kvs,k,b,e,ey,eb,l⟩
 ·subst ey
  obtain⟨z,hd,vs,rel,dd⟩:=dk_rd I.hok e
  obtain⟨w',hw,rw'⟩:=RelO.some_of (v:=v) (o:=valueAt vs k) (by rw[l];exact rel.val k)
  exact wpAny_getItem_of (kV_is ry) dd.mapOf hw (h w' _ (I.tok _) rw')
 ·subst ey
  cases (show u=Value.ref b from ry)
  obtain⟨z,hd,xs,rel,dd⟩:=dt_rd I.hok e
  obtain⟨w',hw,rw'⟩:=RelO.some_of (v:=v) (o:=(atKey xs k).map (·.2)) (by rw[l];exact rel.val k)
  obtain⟨p,hp,hp2⟩:=Option.map_eq_some_iff.mp hw
  refine wpAny_getItem_heap (tupleKind_room_in1 hu) (key_of I.hok eb) dd hp ?_
  rw[hp2]
  exact h w' _ (I.tok _) rw'
theorem d_notIn{Q:Value->Shared->Prop}(hu:A.units+1<cLine)(I:Inv X pins σ H s)(g:DGet H a y o)(ry:RelV y u)(h:∀s',Inv X pins σ H s'->Q (.bool (!o.isSome)) s'):
  wpAny (model X.prog X.w) A (compareOp .NotIn u (.ref a)) Q E s:=by
 rcases g with⟨kvs,k,e,ey,l⟩|⟨kvs,k,b,e,ey,eb,l⟩
 ·subst ey
  obtain⟨z,hd,vs,rel,dd⟩:=dk_rd I.hok e
  refine wpAny_notIn_of (kV_is ry) hd dd.mapOf ?_
  rw[←(rel.val k).isSome_eq,←l]
  exact h _ (I.tok _)
 ·subst ey
  cases (show u=Value.ref b from ry)
  obtain⟨z,hd,xs,rel,dd⟩:=dt_rd I.hok e
  refine wpAny_notIn_heap (tupleKind_room_in1 hu) (key_of I.hok eb) hd dd ?_
  have q:=(rel.val k).isSome_eq
  rw[Option.isSome_map]at q
  rw[←q,←l]
  exact h _ (I.tok _)
theorem d_write{h':Heap}{t':Nat}{ob:HO}(I:Inv X pins σ H s)(mu:Mut (H a))(hs:Heap.SameBut a s.heap h')(he:∃q,h'.get? a=some q)(new:ObjOk X.prog X.w (upd H a ob) h' a ob)(ht:s.toks<=t':=by first|exact Nat.le_refl _|exact Nat.le_succ _|assumption|omega):
  Inv X pins σ (upd H a ob) { s with heap:=h',toks:=t' } :=
 I.write (x:=a) (e:=a) mu (.inl rfl) (λb q hb z=>(hs.2 b hb).trans z) he new
theorem dk_new{P:Program}{w:World}{H':Hp}{h':Heap}{kvs:List (Key×V)}{vs:List (Key×Value)}(z:kvs.length<=sizeLine)(hd:(a==sysModules)=false)(rel:KV kvs vs)(dd:h'.DictOf (q3z P w) a vs):
  ObjOk P w H' h' a (.dK kvs):=⟨z,hd,vs,rel,dd⟩
theorem d_setItem{H':Hp}{Q:Unit->Shared->Prop}(hu:A.units+1<cLine)(I:Inv X pins σ H s)(g:DPut H a y v H')(ry:RelV y u)(rv:RelV v r)(h:∀s',Inv X pins σ H' s'->Q () s'):
  wpAny (model X.prog X.w) A (setItem (.ref a) u r) Q E s:=by
 rcases g with⟨kvs,k,e,ey,l,eH⟩|⟨kvs,k,b,e,ey,eb,l,eH⟩
 ·subst ey eH
  obtain⟨z,hd,vs,rel,dd⟩:=dk_of I.hok e
  have hz:vs.length<=sizeLine:=by rw[←rel.length];exact z
  have hl:(putK kvs k v).length<=sizeLine:=by have:=q5r kvs k v;omega
  refine wpAny_setItem_pairs (hsz:=hz) (kV_is ry) dd λh' dd' hs=>h _ ?_
  have he:∃q,h'.get? a=some q:=let ⟨q,_,_,hq,_⟩:=dd';⟨q,hq⟩
  exact d_write I (by rw[e];exact True.intro) hs he (dk_new hl hd (rel.put k rv) dd')
 ·subst ey eH
  cases (show u=Value.ref b from ry)
  obtain⟨z,hd,xs,rel,dd⟩:=dt_of I.hok e
  have hz:xs.length<=sizeLine:=by rw[←Paired.length rel];exact z
  have hl:(putK kvs k v).length<=sizeLine:=by have:=q5r kvs k v;omega
  refine wpAny_setItem_heap (hsz:=hz) (tupleKind_room_in1 hu) (key_of I.hok eb) dd λh' dd' hs=>h _ ?_
  obtain⟨q,es,ep,hq,h2,h3,h4,_,h5⟩:=dd'
  refine d_write I (by rw[e];exact True.intro) hs ⟨q,hq⟩ ⟨hl,hd,_,(rel.put k eb rv).keeps λc ys ec=>?_,q,es,ep,hq,h2,h3,h4,h5⟩
  rw[upd_ne (q9r ec e (λz=>nomatch z))]
  exact ec
end
section
variable{X:Cx}{pins:List (Addr×Obj)}{σ:St}{H:Hp}{s:Shared}{a:Addr}{kvs:List (Key×V)}{k:Key}{u:Value}{A:Around}{E:Value->Shared->Prop}
end
def NoSl(i:Expr):Prop:=∀ov iv,subscripted i false ov iv=operate [ov,iv] (getItem ov iv)
theorem subD_of{prog:Program}{w:World}{A:Around}{E:Value->Shared->Prop}{s:Shared}{env:Env}{value slice:Expr}{pos:Pos}{T id:String}{Q:Value->Shared->Prop}
  (hl:typeLookup (.type T) "__getitem__" =pure (some (.builtin id))) (hs:NoSl slice)
  (h:wpAny (model prog w) A (eval value env) (λo s₁=>wpAny (model prog w) A (eval slice env) (λi s₂=>s₂.TypeIs o T/\wpAny (model prog w) A (getItem o i) Q E s₂) E s₁) E s) :
  wpAny (model prog w) A (eval (.Subscript value slice pos) env) Q E s:=by
 refine Subscript_ (wpAny_mono h (λo s₁ h₁=>wpAny_mono h₁ (λi s₂ h₂=>?_) λ_ _ x=>x) λ_ _ x=>x)
 obtain⟨hT,h₂⟩:=h₂
 unfold subscriptTail
 refine wpAny_bind ?_
 rw[getitemInPython_of_ne hT.not_modules]
 refine wpAny_bind (wpAny_specialOf hT hl ?_)
 have fin:wpAny (model prog w) A (subscripted slice false o i) (λr s₃=>wpAny (model prog w) A (letTemporaryGo value o r >>= λ_=>pure r) Q E s₃) E s₂:=by
  rw[hs o i]
  exact wpAny_operating (wpAny_mono h₂ (λr s₃ h₃=>wpAny_bind (wpAny_letTemporaryGo (wpAny_pure h₃))) λ_ _ x=>x)
 first
  |exact wpAny_pure (wpAny_bind fin)
  |exact wpAny_bind (wpAny_pure (wpAny_bind fin))
  |exact wpAny_bind fin
theorem dict_typeIs{X:Cx}{pins:List (Addr×Obj)}{σ:St}{H:Hp}{s:Shared}{a:Addr}{y:V}{o:Option V}(I:Inv X pins σ H s)(g:DGet H a y o):s.TypeIs (.ref a) "dict" :=by
 rcases g with⟨kvs,k,e,_,_⟩|⟨kvs,k,b,e,_,_,_⟩
 ·obtain⟨_,_,vs,_,dd⟩:=dk_rd I.hok e
  exact dd.typeIs
 ·obtain⟨_,_,xs,_,dd⟩:=dt_rd I.hok e
  exact dd.typeIs
def tDGet(td ty:TE):TE:=λσ H Q=>td σ H λx H1=>ty σ H1 λy H2=>∃a v,x= .ref a/\DGet H2 a y (some v)/\Q v H2
def sDPut(td ty tv:TE):TS:=λD σ H=>tv σ H λv H1=>td σ H1 λx H2=>ty σ H2 λy H3=>∃a H4,x= .ref a/\DPut H3 a y v H4/\D.nx σ H4
section
variable{X:Cx}{o i e value:Expr}{pos pos' tpos:Pos}{td ty tv:TE}
theorem pe_dget(hu:X.A.units+1<cLine)(ho:PE X o td)(hi:PE X i ty)(hs:NoSl i):PE X (.Subscript o i pos) (tDGet td ty):=by
 intro pins s σ H Q I h
 refine subD_of PySem.F.slot_dict_getitem.lookup hs (thn (ho pins s σ H _ I h) λu s1 ⟨x,H1,I1,rx,q1⟩=>thn (hi pins s1 σ H1 _ I1 q1) λiv s2 ⟨y,H2,I2,ry,a,v,ex,g,q2⟩=>?_)
 subst ex
 obtain rfl:u=Value.ref a:=rx
 exact⟨dict_typeIs I2 g,d_getItem hu I2 g ry λw' s3 I3 rw'=>⟨v,H2,I3,rw',q2⟩⟩
theorem ps_dput(hu:X.A.units+1<cLine)(ho:PE X o td)(hi:PE X i ty)(hv:PE X value tv)(hs:swapsWith value (some (.Subscript o i pos')) pos.line X.env=pure false):
  PS X (.Assign [.Subscript o i pos'] value pos) (sDPut td ty tv):=by
 intro pins s σ H D I h
 refine wpAny_Assign_Subscript (thn (hv pins s σ H _ I h) λr s1 ⟨v,H1,I1,rv,q1⟩=>thn (ho pins s1 σ H1 _ I1 q1) λu s2 ⟨x,H2,I2,rx,q2⟩=>thn (hi pins s2 σ H2 _ I2 q2) λiv s3 ⟨y,H3,I3,ry,a,H4,ex,g,q3⟩=>?_) hs
 subst ex
 obtain rfl:u=Value.ref a:=rx
 exact d_setItem hu I3 g ry rv λs4 I4=>⟨σ,H4,I4,q3⟩
end
theorem dk_empty{P:Program}{w:World}{H:Hp}(h:Heap)(hb:sysModules<h.objs.size):ObjOk P w H (h.push { cls:=.type "dict",data:=.dict #[] }) h.objs.size (.dK []) :=
 ⟨Nat.zero_le _,beq_eq_false_iff_ne.mpr (Ne.symm (Nat.ne_of_lt hb)),[],.nil,Heap.DictOf.new h⟩
theorem dt_empty{P:Program}{w:World}{H:Hp}(h:Heap)(hb:sysModules<h.objs.size):ObjOk P w H (h.push { cls:=.type "dict",data:=.dict #[] }) h.objs.size (.dT []) :=
 ⟨Nat.zero_le _,beq_eq_false_iff_ne.mpr (Ne.symm (Nat.ne_of_lt hb)),[],.nil,_,#[],0,Heap.get?_push_size _ rfl,⟨rfl,rfl,rfl⟩,rfl,rfl,List.nodup_nil⟩
def tDNewK:TE:=λ_ H Q=>∀p,H p=none->Q (.ref p) (upd H p (.dK []))
def tDNewT:TE:=λ_ H Q=>∀p,H p=none->Q (.ref p) (upd H p (.dT []))
section
variable{X:Cx}{pos:Pos}
theorem pe_dnewK:PE X (.Dict [] [] pos) tDNewK:=λpins s σ H Q I h =>
 wpAny_Dict_empty ⟨.ref s.heap.objs.size,_,I.laid (a:=s.heap.objs.size) (o:=.dK []) (t':=s.toks) (λ_ _ q=>Heap.get?_push_of_some _ q) (Nat.le_refl _) (dk_empty s.heap I.big),rfl,h _ (I.hok.fresh (Nat.le_refl _))⟩
theorem pe_dnewT:PE X (.Dict [] [] pos) tDNewT:=λpins s σ H Q I h =>
 wpAny_Dict_empty ⟨.ref s.heap.objs.size,_,I.laid (a:=s.heap.objs.size) (o:=.dT []) (t':=s.toks) (λ_ _ q=>Heap.get?_push_of_some _ q) (Nat.le_refl _) (dt_empty s.heap I.big),rfl,h _ (I.hok.fresh (Nat.le_refl _))⟩
end
section
variable{X:Cx}{pins:List (Addr×Obj)}{σ:St}{H:Hp}{s:Shared}{a:Addr}{y d:V}{u r:Value}{o:Option V}{A:Around}{E:Value->Shared->Prop}
end
section
variable{X:Cx}{o e f:Expr}{apos cpos:Pos}{td ty tx:TE}
end
section
variable{X:Cx}{pins:List (Addr×Obj)}{σ:St}{H:Hp}{s:Shared}{a:Addr}{kvs:List (Key×V)}{A:Around}{E:Value->Shared->Prop}
end
section
variable{X:Cx}{pins:List (Addr×Obj)}{σ:St}{H:Hp}{s:Shared}{a:Addr}{y:V}{u:Value}{A:Around}{E:Value->Shared->Prop}
end
end L2
namespace Att
open PySem PySem.W PySem.Calls PyProof.Rows
theorem z3b{P:Params}{h:Heap}:∀(ns:List Int) (vs:List Value),WellAll P h vs (ns.map WData.int)->IntsAre vs ns:=by
 intro ns
 induction ns with
 |nil =>
  intro vs w
  rw[List.map_nil]at w
  cases w
  exact .nil
 |cons n ns ih =>
  intro vs w
  rw[List.map_cons]at w
  cases w with
  |cons a b =>
   cases a
   exact .cons _ _ (ih _ b)
theorem script_of{l:OpenLaw}{n:Nat}(hn:l.most=some n){P:Params}{h:Heap}{args:List WData}{vals:List Value}
  (hpre:l.row.toRowW.claim.pre args=true) (hwl:WellAll P h vals args) :
  ∃a vs ns,vals=[Value.ref a]/\args=[WData.list (ns.map WData.int)]/\h.get? a=some { cls:=.type "list",data:=.seq vs.toArray }/\IntsAre vs ns/\ns.length<=n:=by
 have hsh:WShape.hasAll [] args [.list .int]=true:=(pre_splitW hpre).1
 have hc:l.pre.holds [] { args:=args }=true:=(pre_splitW hpre).2
 obtain⟨d,r,rfl,h1,h2⟩:=hasAllW_cons hsh
 obtain rfl:=hasAllW_nil h2
 obtain⟨xs,rfl,h3⟩:=hasW_list h1
 obtain⟨ns,rfl⟩:=items_int h3
 have hlen:ns.length<=n:=by
  unfold OpenLaw.pre at hc
  have h4:(WTm.not (.lt (.lit (.int (n:Int))) (.len (.arg 0)))).holds [] { args:=[.list (ns.map .int)] }=true:=by
   have h4:=(holds_andW hc).1
   rw[hn]at h4
   exact h4
  have h5:=condW_of h4 (w_not (w_lt w_lit (w_len_list (w_arg rfl))))
  rw[List.length_map]at h5
  refine Nat.le_of_not_lt λq=>?_
  have q':(n:Int)<((ns.length:Nat):Int):=by omega
  first
   |(rw[decide_eq_true q']at h5;exact absurd h5 (by decide))
   |(simp at h5;omega)
 cases hwl with
 |cons w1 w2 =>
  cases w2
  cases w1 with
  |list ho hall=>exact⟨_,_,ns,rfl,rfl,ho,z3b ns _ hall,hlen⟩
theorem post_true(l:OpenLaw)(args:List WData):l.row.toRowW.claim.post args (.bool true) args=true :=
 postW_of (r:=l.row.toRowW) (X:=(true==true))
  (show WShape.has [] (.bool true) .bool=true by first|rfl|decide|simp[WShape.has,WShape.arms,WShape.armsAll])
  (show(WTm.eq .res (.lit (.bool true))).value [] { args:=args,res:=some (.bool true),after:=args }=some (.bool (true==true)) from w_eq_bool (w_res rfl) w_lit) rfl
section
variable{prog:Program}{w:World}{A:Around}{E:Value->Shared->Prop}{s:Shared}{K:Frag}
end
end Att
namespace L2
open PySem PySem.Spec PyProof.Rows
theorem vals_ints:∀{vs:List Value} {ns:List Int},IntsAre vs ns->Vals (ns.map V.int) vs
 |_,_,.nil=>.nil
 |_,_,.cons n t h=>.cons ⟨t,rfl⟩ (vals_ints h)
def Only(H:Hp):Prop:=∀b,H b=none\/∃o xs,H b=some (.frz o (.lst xs))
theorem law_call{P:Program}{w:World}{K:PySem.W.Frag}{mg mb:Str->Option Value}{CX:CXT}{k:Nat}{fa a:Addr}{fd:FuncData}{x:Str}{sp:Sp}{s₁:Shared}{vs:List Value}{ns:List Int}
  (KX:K.In s₁.heap) (hns:s₁.heap.Ns mainGlobals mg) (hb:s₁.heap.Ns builtinsNs mb) (hbb:∀x:Str,x≠ "__name__" ->mb x=bootBuiltins x) (hlim:s₁.heap.NoLimit) (hg:s₁.gens= #[]) (htk:TokB mg s₁.toks)
  (ha:s₁.heap.get? a=some { cls:=.type "list",data:=.seq vs.toArray }) (hi:IntsAre vs ns) (hl:ns.length<=sizeLine) (hr:Room k callerA)
  (F:∀base:Heap,K.In base->base.Ns mainGlobals mg->FnOk P w K mg base CX k fa fd [x] sp) (hbind:∀(s:Shared) (u:Value),BindsTo s fd ⟨[u],[]⟩ [(x,u)])
  (hsp:∀H:Hp,Only H->SqL K H a (ns.map V.int)->sp [.ref a] H (λv _=>v= .bl true) λ_ _ _=>False)
  (hCX:∀H e s',CX [] H s₁ (λ_ _ _=>False) e s'->False) :
  codeAny (model P w) callerA (.call (.ref fa) ⟨[.ref a],[]⟩) (λr s'=>r= .ok (.ret (.bool true))/\OldK s₁.heap s'.heap/\s'.os=s₁.os/\AllBare s'.gens) s₁:=by
 have rv:=vals_ints hi
 have lenV:=hi.length
 have core:∀H:Hp,Only H->SqL K H a (ns.map V.int)->HOk P w H s₁.heap->(∀b,H b≠none->b=a)->(H a≠none->K.lookup a=none) →
   codeAny (model P w) callerA (.call (.ref fa) ⟨[.ref a],[]⟩) (λr s'=>r= .ok (.ret (.bool true))/\OldK s₁.heap s'.heap/\s'.os=s₁.os/\AllBare s'.gens) s₁:=by
  intro H hO hS hok hA hK
  have base_of:∀{b:Addr} {o:Obj},s₁.heap.get? b=some o->H b=none->(hidT s₁.heap H).get? b=some o:=λe n=>hidT_get e n
  have noA:∀{b:Addr} {o:Obj} {es:Array DictEntry} {ep:Nat},s₁.heap.get? b=some o->o.data= .dict es ep->H b=none:=λ{b o es ep} e d=>by
   cases q:H b with
   |none=>rfl
   |some u =>
    have e':b=a:=hA b (by rw[q];simp)
    subst e'
    rw[ha]at e;cases e
    have d':Data.seq vs.toArray _=Data.dict es ep:=d
    cases d'
  have nsK:∀{b:Addr} {m:Str->Option Value},s₁.heap.Ns b m->(hidT s₁.heap H).Ns b m:=λ{b m} ⟨o,es,ep,e,d,r⟩=>⟨o,es,ep,base_of e (noA e d),d,r⟩
  have hKb:K.In (hidT s₁.heap H):=λb o e=>base_of (KX b o e) (by
   cases q:H b with
   |none=>rfl
   |some u =>
    have e':b=a:=hA b (by rw[q];simp)
    subst e'
    rw[hK (by rw[q];simp)]at e;cases e)
  have hM:Mod K mg (hidT s₁.heap H):=⟨hKb,nsK hns,⟨mb,nsK hb,hbb⟩,let ⟨mc,h1,h2⟩:=hlim;⟨mc,nsK h1,h2⟩⟩
  have e0:Env0 P w K mg (hidT s₁.heap H) callerA [] s₁ H:=⟨rfl,hM,λb o e=>of_hidT e,Nat.le_of_eq (hidT_size _ _),trivial,λb hb=>absurd (show b∈([]:List Addr) from hb) (by simp),hok,.of_eq hg,htk⟩
  refine codeAny_mono ((F _ hKb (nsK hns)).run callerA [] s₁ H ⟨[.ref a],[]⟩ [.ref a] [.ref a] _ _ hr e0 (hbind s₁ (.ref a)) (.cons rfl .nil) (hsp H hO hS)) λr s' h=>?_
  cases r with
  |error e=>exact(hCX H e s' h).elim
  |ok fl =>
   cases fl with
   |next=>exact False.elim h
   |brk=>exact False.elim h
   |cont=>exact False.elim h
   |ret u =>
    obtain⟨v,H',os,bare,un,hok',r',_,q⟩:=h
    have q':v= .bl true:=q
    subst q'
    obtain rfl:u=Value.bool true:=r'
    refine⟨rfl,OldK.of_keep λb o e=>?_,os,bare⟩
    cases q:H b with
    |none=>exact un.keep b o e q (by intro z;exact absurd (show b∈([]:List Addr) from z) (by simp)) (by simp)
    |some u =>
     rcases hO b with z|⟨ob,xs,z⟩
     ·rw[q]at z;cases z
     ·have z2:=un.frzs b ob _ z
      obtain⟨e1,_⟩:=hok b _ z
      obtain⟨e2,_⟩:=hok' b _ z2
      rw[e]at e1;cases e1
      exact e2
 cases hk:K.lookup a with
 |some o =>
  have e:=KX a o hk
  rw[ha]at e
  cases e
  refine core (λ_=>none) (λ_=>.inl rfl) (.inr ⟨_,vs.toArray,_,hk,rfl,rfl,rfl,by rw[List.size_toArray,lenV];exact hl,by simpa using rv⟩) (λb u z=>by have z':(none:Option HO)=some u:=z;cases z') (λb z=>absurd rfl z) λz=>absurd rfl z
 |none =>
  refine core (λb=>if b=a then some (.frz { cls:=.type "list",data:=.seq vs.toArray } (.lst (ns.map V.int)))else none) (λb=>?_) (.inl (.inr ⟨{ cls:=.type "list",data:=.seq vs.toArray },if_pos rfl⟩)) (λb u z=>?_) (λb z=>?_) λ_=>hk
  ·by_cases hb:b=a
   ·exact .inr ⟨_,_,if_pos hb⟩
   ·exact .inl (if_neg hb)
  ·by_cases hb:b=a
   ·have z':=(if_pos hb).symm.trans z
    cases z'
    subst hb
    exact⟨ha,by rw[List.length_map];exact hl,vs,_,rv,ha⟩
   ·have z':=(if_neg hb).symm.trans z
    cases z'
  ·by_cases hb:b=a
   ·exact hb
   ·exact absurd (if_neg hb) z
end L2
namespace L2
open PySem PySem.Spec PyProof.Rows
end L2
namespace L2
open PySem PySem.Spec PyProof.Rows
def z5y(s:Stmt)(j:Nat):Stmt:=match s with
 | .ClassDef _ _ _ body _ _ _ _ _ _ _=>body.getD j (.Pass ⟨0,0,0,0⟩)
 |_=>.Pass ⟨0,0,0,0⟩
def q4a(s:Stmt):Arguments:=match s with
 | .FunctionDef _ a _ _ _ _ _ _ _ _=>a
 |_=>{ posonlyargs:=[],args:=[],vararg:=none,kwonlyargs:=[],kw_defaults:=[],kwarg:=none,defaults:=[] }
def q3a(s:Stmt):List Stmt:=match s with
 | .FunctionDef _ _ b _ _ _ _ _ _ _=>b
 |_=>[]
def q0g(s:Stmt):Scope:=match s with
 | .FunctionDef _ _ _ _ _ _ sc _ _ _=>sc
 |_=>{ kind:=.function,names:=[],isGenerator:=false,isCoroutine:=false }
abbrev CX0:CXT:=λ_ _ _ _ _ _=>False
abbrev E0:XK:=λ_ _ _=>False
theorem q0t{X:Cx}:z4o CX0 X E0:=λ_ _ _ _ _ _ _ h=>h.elim
structure Fun(K:PySem.W.Frag)(x qual:Str)(st:Stmt)(f:Addr)(fd:FuncData):Prop where
 ex:∃(oc:Value) (od:Option Addr) (kV doc pm:Value) (an:Option Addr) (cdv ct:Value) (osl:Array (Option Value)),
  fd=PySem.W.fnOf x qual (q4a st) (q3a st) (q0g st) .none kV doc pm an cdv ct/\K.lookup f=some ⟨oc,od,.func fd,osl⟩/\PySem.W.codeIn K cdv qual=true
 kp:PySem.W.keepIn K (.ref f)=true
section
variable{P:Program}{w:World}{K:PySem.W.Frag}{mg:Str->Option Value}{base:Heap}
theorem Fun.ok{x qual:Str}{st:Stmt}{f:Addr}{fd:FuncData}{N ps:List Str}{k:Nat}{sp:Sp}(F:Fun K x qual st f fd)(S:q0k N ps (q0g st))(len:∀vs H Q E,sp vs H Q E->vs.length=ps.length)
  (hbody:∀(cdv:Value) (A:Around) (outer:List Env) (s:Shared) (H:Hp) (vs:List V) (Q:VK) (E:XK),Room k (A.deeper (envOfC qual (q0g st) s.heap.objs.size f cdv))->sp vs H Q E →
   ∃t,PSs (cxOf CX0 P w K mg base N qual (q0g st) f cdv A outer s H E).nox (q3a st) t/\t { nx:=λ_ H'=>Q .non H',rt:=Q } (z4q N vs) H):FnOk P w K mg base CX0 (k+1) f fd ps sp:=by
 obtain⟨oc,od,kV,doc,pm,an,cdv,ct,osl,rfl,lk,hcd⟩:=F.ex
 refine fn_of lk hcd S len λA outer s H vs Q E hr hsp=>?_
 obtain⟨t,h,q⟩:=hbody cdv A outer s H vs Q E hr hsp
 exact⟨t,h.nox,q⟩
theorem Fun.binds{x qual:Str}{st:Stmt}{f:Addr}{fd:FuncData}{ps:List Str}(F:Fun K x qual st f fd)
  (h:∀(kV doc pm:Value) (an:Option Addr) (cdv ct:Value) (us:List Value),us.length=ps.length->bindArgs (PySem.W.fnOf x qual (q4a st) (q3a st) (q0g st) .none kV doc pm an cdv ct) ⟨us,[]⟩=pure (ps.zip us)):Binds K fd ps []:=by
 obtain⟨oc,od,kV,doc,pm,an,cdv,ct,osl,rfl,lk,hcd⟩:=F.ex
 exact .all (h kV doc pm an cdv ct)
theorem z3c{x qual:Str}{st:Stmt}{f:Addr}{oc:Value}{od an:Option Addr}{osl:Array (Option Value)}{kV doc pm cdv ct:Value}(l:K.lookup f=some ⟨oc,od,.func (PySem.W.fnOf x qual (q4a st) (q3a st) (q0g st) .none kV doc pm an cdv ct),osl⟩)
  (c:PySem.W.codeIn K cdv qual=true) (k:PySem.W.keepIn K (.ref f)=true):Fun K x qual st f (PySem.W.fnOf x qual (q4a st) (q3a st) (q0g st) .none kV doc pm an cdv ct):=⟨⟨oc,od,kV,doc,pm,an,cdv,ct,osl,rfl,l,c⟩,k⟩
end
theorem z3y{A:Around}{k:Nat}(hr:Room k A):A.units+1<cLine:=Nat.lt_of_le_of_lt (Nat.add_le_add_left (by decide:1<=64) _) hr.units
section
variable{X:Cx}
theorem pv (i:Nat) {x:Str} {pos:Pos} (hN:X.N[i]? =some x:=by rfl) (hv:Vis X.env.scope x:=by first|exact Or.inl rfl|exact Or.inr (Or.inl rfl)|exact Or.inr (Or.inr rfl)) (hd:(x==("__debug__" :Str))=false:=by decide)
  (hcd:(x==("__classdict__" :Str))=false:=by decide):PE X (.Name x pos) (tVar i):=pe_var hN hv hd hcd
end
theorem z1x{A B:Prop}(h:B):if false=true then A else B:=by
 rw[if_neg Bool.false_ne_true]
 exact h
theorem z3x{A B:Prop}(h:A):if true=true then A else B:=by
 rw[if_pos rfl]
 exact h
def Same(H H':Hp):Prop:=∀b o,H b=some o->H' b=some o
theorem Same.refl(H:Hp):Same H H:=λ_ _ h=>h
theorem Same.trans{H H1 H2:Hp}(a:Same H H1)(b:Same H1 H2):Same H H2:=λc o h=>b c o (a c o h)
theorem Same.free{H H':Hp}(e:Same H H'){l:Addr}(h:H' l=Option.none):H l=Option.none:=by
 cases q:H l with
 |none=>rfl
 |some o =>
  rw[e l o q]at h
  cases h
theorem Same.seq{K:PySem.W.Frag}{H H':Hp}{a:Addr}{xs:List V}(e:Same H H')(h:SqL K H a xs):SqL K H' a xs:=by
 rcases h with(h|⟨o,h⟩)|h
 ·exact .inl (.inl (e _ _ h))
 ·exact .inl (.inr ⟨o,e _ _ h⟩)
 ·exact .inr h
section
variable{κ:Type}[DecidableEq κ]
end
end L2
namespace GP
theorem len1{α:Type}:∀{l:List α},l.length=1->∃a,l=[a]
 |[a],_=>⟨a,rfl⟩
theorem len_s{α:Type}{n:Nat}:∀{l:List α},l.length=n+1->∃a r,l=a::r/\r.length=n
 |a::r,h=>⟨a,r,rfl,Nat.succ.inj h⟩
theorem len2{α:Type}{l:List α}(h:l.length=2):∃a b,l=[a,b]:=by
 obtain⟨a,r,rfl,k⟩:=len_s h
 obtain⟨b,rfl⟩:=len1 k
 exact⟨a,b,rfl⟩
theorem len3{α:Type}{l:List α}(h:l.length=3):∃a b c,l=[a,b,c]:=by
 obtain⟨a,r,rfl,k⟩:=len_s h
 obtain⟨b,c,rfl⟩:=len2 k
 exact⟨a,b,c,rfl⟩
theorem len4{α:Type}{l:List α}(h:l.length=4):∃a b c d,l=[a,b,c,d]:=by
 obtain⟨a,r,rfl,k⟩:=len_s h
 obtain⟨b,c,d,rfl⟩:=len3 k
 exact⟨a,b,c,d,rfl⟩
theorem len5{α:Type}{l:List α}(h:l.length=5):∃a b c d e,l=[a,b,c,d,e]:=by
 obtain⟨a,r,rfl,k⟩:=len_s h
 obtain⟨b,c,d,e,rfl⟩:=len4 k
 exact⟨a,b,c,d,e,rfl⟩
theorem len6{α:Type}{l:List α}(h:l.length=6):∃a b c d e f,l=[a,b,c,d,e,f]:=by
 obtain⟨a,r,rfl,k⟩:=len_s h
 obtain⟨b,c,d,e,f,rfl⟩:=len5 k
 exact⟨a,b,c,d,e,f,rfl⟩
end GP
namespace L2
open PySem PySem.Spec PyProof.Rows
section
variable{X:Cx}
theorem q7j:z0w X (.builtin "isinstance") (λxs H Q=>∃x n t b,xs=[x,.ty n]/\TyOf X.K H x t/\PySem.W.kitOne X.K t (.type n)=some b/\Q (.bl b) H):=by
 intro pins s σ H xs us Q I r h
 obtain⟨x,n,t,b,rfl,ty,e,q⟩:=h
 obtain⟨u,w',rfl,rx,rn⟩:=vals2 r
 cases rn
 exact TK.wpAny_up (Nat.le_refl _) (isinst_ok I rx ty e λtk hup=>⟨.bl b,H,I.tok _,rfl,q⟩)
theorem bools_get:∀{bs:List Bool} {us:List Value},Vals (bs.map V.bl) us->∀(i:Nat) (v:Value),us[i]? =some v->∃b,bs[i]? =some b/\v= .bool b
 |[],_,r,i,v,e=>by
  cases r
  simp at e
 |b::bs,_,r,i,v,e=>by
  cases r with
  |cons r1 r2 =>
   cases i with
   |zero =>
    simp at e
    subst e
    exact⟨b,rfl,r1⟩
   |succ i =>
    obtain⟨c,h1,h2⟩:=bools_get r2 i v (by simpa using e)
    exact⟨c,by simpa using h1,h2⟩
theorem range_allB(bs:List Bool):((List.range bs.length).all λi=>(bs[i]?).getD true)=bs.all id:=by
 rw[Bool.eq_iff_iff,List.all_eq_true,List.all_eq_true]
 constructor
 ·intro h b hb
  obtain⟨i,hi,rfl⟩:=List.getElem_of_mem hb
  have:=h i (List.mem_range.mpr hi)
  simpa only[List.getElem?_eq_getElem hi,Option.getD_some,id]using this
 ·intro h i hi
  have hi':=List.mem_range.mp hi
  simpa only[List.getElem?_eq_getElem hi',Option.getD_some,id]using h _ (List.getElem_mem hi')
theorem z3g(hc:X.calm=true):z0w X (.builtin "all") (λxs H Q=>∃(l:Addr) (bs:List Bool),xs=[.ref l]/\SqL X.K H l (bs.map V.bl)/\Q (.bl (bs.all id)) H):=by
 intro pins s σ H xs us Q I r h
 obtain⟨l,bs,rfl,hl,q⟩:=h
 obtain⟨u,rfl,ru⟩:=z2c r
 cases ru
 obtain⟨its,rv,p,hz⟩:=I.list hl
 have pl:s.heap.IsList l its.toArray:=p.isList
 have hlt:l<s.heap.objs.size:=by obtain⟨_,e,_⟩:=pl;exact Heap.lt_size e
 have hlen:bs.length=its.length:=by rw[←rv.length,List.length_map]
 refine TK.wpAny_up (Nat.le_refl s.toks) ?_
 refine call_all_walk (wpAny_pyIter_list pl ?_)
 refine⟨s.heap.objs.size,[s.heap.objs.size,l],[s.heap.objs.size],its.toArray.size,_,_,λi=>(bs[i]?).getD true,rfl,Walks.list (A:=X.A.in1) (I.ok.hd hc) _ l (Nat.ne_of_lt hlt) its.toArray,
  ⟨⟨_,Heap.get?_push_size _ rfl,rfl,rfl⟩,pl.push _⟩,λi v s' Q' E' hP hQ=>?_,λh' tk hk hup=>?_⟩
 ·obtain⟨b,e,rfl⟩:=bools_get rv i v (by simpa using hP)
  simp only[e,Option.getD_some]at hQ
  exact wpAny_truthy_bool hQ
 ·have e:((List.range its.toArray.size).all λi=>(bs[i]?).getD true)=bs.all id:=by
   rw[List.size_toArray,←hlen];exact range_allB bs
  rw[e]
  refine⟨.bl (bs.all id),H,I.kept (t':=tk) (λb x e=>hk b x (λhm=>?_) (Heap.get?_push_of_some _ e)),rfl,q⟩
  rw[List.mem_singleton.mp hm]at e
  exact Nat.lt_irrefl _ (Heap.lt_size e)
end
theorem pg_tupK{X:Cx}{K':PySem.W.Frag}{es:List Expr}{k:Nat}{t:TGs}{n:Nat}{pos:Pos}(hK:X.K=K')(hc:X.calm=true)(h:PGs X es t)
  (hn:(assignEach es X.env).length=n:=by rfl) (hst:(assignEach es X.env).findIdx? (·.1)=none:=by rfl):PG X (.Tuple es k pos) (gTup K' n t):=by
 subst hK
 exact z2p hc h hn hst
def tMid(t u:TS):TS:=λD σ H=>∃Mid:St->Hp->Prop,t { D with nx:=Mid } σ H/\∀ σ' H',Mid σ' H'->u D σ' H'
theorem q1x{X:Cx}{st:Stmt}{rest:List Stmt}{t u:TS}(h1:PS X st t)(h2:PSs X rest u):PSs X (st::rest) (tMid t u):=by
 intro pins s σ H D I h
 obtain⟨Mid,h,hm⟩:=h
 refine wpAny_execs_cons (thn (h1 pins s σ H { D with nx:=Mid } I h) λf s1 q=>?_)
 cases f with
 |next =>
  obtain⟨σ',H',I',q⟩:=q
  exact h2 pins s1 σ' H' D I' (hm σ' H' q)
 |ret v=>exact q
 |brk=>exact q
 |cont=>exact q
def z1d(X:Cx)(scope:Scope)(cl:List (Str×Addr))(C:Addr)(N:List Str)(s:Shared)(H:Hp)(ex:List Addr)(pn:List (Addr×Obj))(E:Value->Shared->Prop):Cx :=
 { X with N:=N,s₀:=s,H₀:=H,env:=compEnvC scope cl C X.env,outer:=X.stack,ex:=ex,fn:=λx=>scope.names.lookup x==some .cell,pn:=pn,xe:=E }
structure CompSc(X:Cx)(scope:Scope)(cl:List (Str×Addr))(N:List Str)(σ0:St->St):Prop where
 clos:closureFor scope X.env=pure cl
 kind:scope.kind= .function
 cell:∀y∈scope.names,y.2= .cell->cl.lookup y.1=none
 names:∀y∈scope.names,y.2= .local->scope.names.lookup y.1=some .local
 sub:∀x c,cl.lookup x=some c->X.env.cells.lookup x=some c
 has:∀x,((relabel scope X.env).names.lookup x=some .cell\/(relabel scope X.env).names.lookup x=some .free)->scope.names.lookup x=some .cell\/∃c,cl.lookup x=some c
 len:∀ σ,(σ0 σ).length=N.length
 fv:∀(σ:St) (i:Nat) (x:Str) (v:V),N[i]? =some x->(σ0 σ)[i]? =some (some v)->Vis (relabel scope X.env) x →
  ∃(j:Nat) (c:Addr),X.N[j]? =some x/\σ[j]? =some (some v)/\X.env.kindOf x=some .cell/\((relabel scope X.env).names.lookup x=some .cell\/(relabel scope X.env).names.lookup x=some .free)/\cl.lookup x=some c
structure CompCl(cl cl':List (Str×Addr))(scope:Scope)(n:Nat)(h₁:Heap):Prop where
 look:∀x c,cl'.lookup x=some c->(n<c/\h₁.IsCell c none)\/cl.lookup x=some c
 inj:∀x y c,n<c->cl'.lookup x=some c->cl'.lookup y=some c->(∀x,cl.lookup x≠some c)->x=y
 keep:∀x c,cl.lookup x=some c->cl'.lookup x=some c
 own:∀x,scope.names.lookup x=some .cell->∃c,cl'.lookup x=some c
theorem q2z:∀(names:List (Str×NameKind)) (n:Nat) (acc:List (Str×Addr)),cellsFrom n names acc=cellsFrom n names []++acc
 |[],_,_=>rfl
 |(y,k)::r,n,acc=>by
  unfold cellsFrom
  split
  ·rw[q2z r _ ((y,n)::acc),q2z r _ [(y,n)],List.append_assoc];rfl
  ·exact q2z r n acc
theorem q7h:∀(names:List (Str×NameKind)) (n:Nat) (acc:List (Str×Addr)) (x:Str) (c:Addr),(x,c)∈cellsFrom n names acc->(x,NameKind.cell)∈names\/(x,c)∈acc
 |[],_,_,_,_,h=>.inr h
 |(y,k)::r,n,acc,x,c,h=>by
  unfold cellsFrom at h
  split at h
  next hk =>
   rcases q7h r _ _ x c h with z|z
   ·exact .inl (List.mem_cons_of_mem _ z)
   ·rcases List.mem_cons.mp z with e|e
    ·cases e
     have hk':k= .cell:=by simpa using hk
     rw[hk']
     exact .inl List.mem_cons_self
    ·exact .inr e
  next=>exact(q7h r _ _ x c h).imp (List.mem_cons_of_mem _) id
theorem comp_env{X:Cx}{scope:Scope}{cl:List (Str×Addr)}{N:List Str}{σ0:St->St}(S:CompSc X scope cl N σ0){M:Model}{A:Around}{E:Value->Shared->Prop}{s:Shared}{Q:Env->Shared->Prop}
  (h:∀cl' h₁,CompCl cl cl' scope s.heap.objs.size h₁->h₁.Ns s.heap.objs.size (λ_=>none)->(∀b o,s.heap.get? b=some o->h₁.get? b=some o)->Q { compEnvC scope cl' s.heap.objs.size X.env with scope:=scope } { s with heap:=h₁ }) :
  wpAny M A (newFunctionEnv scope X.env.globals cl [] X.env.qual none .none (some X.env)) Q E s:=by
 simp only[newFunctionEnv,Option.isSome_some,if_true]
 refine wpAny_bind (wpAny_alloc ?_)
 refine wpAny_bind (wpAny_layCells _ (λname kind cells=>by cases hkc:kind==NameKind.cell<;>simp[hkc]) _ _ _ _ ?_)
 have hz:(s.heap.push { cls:=.type "dict",data:=.dict #[] }).objs.size=s.heap.objs.size+1:=Heap.size_push ..
 have ok:=cellsFrom_ok scope.names (s.heap.push { cls:=.type "dict",data:=.dict #[] }) (s.heap.objs.size+1) [] ⟨λ_ _ hm=>(nomatch hm),List.Pairwise.nil⟩ (by rw[hz];exact Nat.le_refl _)
 simp only[List.forIn_nil]
 refine wpAny_bind (wpAny_pure (wpAny_pure (h (cellsFrom (s.heap.push { cls:=.type "dict",data:=.dict #[] }).objs.size scope.names cl) _ ⟨λx c e=>?_,λx y c _ ex ey hn=>?_,λx c e=>?_,λx e=>?_⟩ ((Heap.Ns.new s.heap (.type "dict")).keeps λb o e=>pushCells_keeps _ _ _ _ e) λb o e=>pushCells_keeps _ _ _ _ (Heap.get?_push_of_some _ e))))
 ·rw[q2z,List.lookup_append]at e
  cases q:(cellsFrom (s.heap.push { cls:=.type "dict",data:=.dict #[] }).objs.size scope.names []).lookup x with
  |none=>rw[q]at e;exact .inr e
  |some d =>
   rw[q]at e
   cases e
   exact .inl ((ok.empty x c (mem_of_lookup q)).symm)
 ·rw[q2z,List.lookup_append]at ex ey
  cases qx:(cellsFrom (s.heap.push { cls:=.type "dict",data:=.dict #[] }).objs.size scope.names []).lookup x with
  |none=>rw[qx]at ex;exact absurd ex (hn x)
  |some d =>
   rw[qx]at ex
   cases ex
   cases qy:(cellsFrom (s.heap.push { cls:=.type "dict",data:=.dict #[] }).objs.size scope.names []).lookup y with
   |none=>rw[qy]at ey;exact absurd ey (hn y)
   |some d =>
    rw[qy]at ey
    cases ey
    exact name_of_addr ok.apart (mem_of_lookup qx) (mem_of_lookup qy)
 ·rw[q2z,List.lookup_append]
  cases q:(cellsFrom (s.heap.push { cls:=.type "dict",data:=.dict #[] }).objs.size scope.names []).lookup x with
  |none=>exact e
  |some d =>
   rcases q7h _ _ _ _ _ (mem_of_lookup q)with z|z
   ·rw[S.cell _ z rfl]at e;cases e
   ·cases z
 ·exact Option.isSome_iff_exists.mp (PySem.W.cellsFrom_some _ _ _ (.inl e))
theorem CompSc.plain{X:Cx}{scope:Scope}{N:List Str}(hfree:∀x∈scope.names,x.2≠ .free)(kind:scope.kind= .function)(_:∀y∈scope.names,y.2= .cell->(y.1,NameKind.free)∉scope.names)
  (names:∀y∈scope.names,y.2= .local->scope.names.lookup y.1=some .local):CompSc X scope [] N (λ_=>List.replicate N.length none):=by
 have hr:(relabel scope X.env).names=scope.names:=by
  unfold relabel
  exact map_eq_self λx hx=>by
   obtain⟨n,k⟩:=x
   have:(k==NameKind.free)=false:=by simpa using hfree _ hx
   simp[this]
 refine⟨closureFor_none hfree,kind,λ_ _ _=>rfl,names,λx c e=>by simp at e,λx hx=>?_,λσ=>List.length_replicate,λσ i x v _ e _=>?_⟩
 ·rw[hr]at hx
  rcases hx with hx|hx
  ·exact .inl hx
  ·exact absurd rfl (hfree _ (PySem.mem_of_lookup hx))
 ·rw[List.getElem?_replicate]at e
  split at e
  ·cases e
  ·cases e
def clOf(look:Str->Option Addr):List (Str×NameKind)->List (Str×Addr)->List (Str×Addr)
 |[],acc=>acc
 |(n,k)::r,acc=>if(k==NameKind.free)=true then(match look n with|some a=>clOf look r ((n,a)::acc)|none=>clOf look r acc)else clOf look r acc
theorem z0v{env:Env}:∀(names:List (Str×NameKind)) (acc:List (Str×Addr)),(∀x∈names,x.2= .free->∃a,env.cells.lookup x.1=some a) →
  (forIn names acc (λ(x:Str×NameKind) (r:List (Str×Addr))=>match x with|(name,kind)=>if(kind==NameKind.free)=true then do let c ←cellOf env name;pure (ForInStep.yield ((name,c)::r))else pure (ForInStep.yield r)):Sem (List (Str×Addr)))=pure (clOf (env.cells.lookup ·) names acc)
 |[],acc,_=>rfl
 |(n,k)::r,acc,h=>by
  rw[List.forIn_cons]
  dsimp only
  unfold clOf
  by_cases hk:(k==NameKind.free)=true
  ·obtain⟨a,ha⟩:=h (n,k) List.mem_cons_self (by simpa using hk)
   have ha':env.cells.lookup n=some a:=ha
   rw[if_pos hk,if_pos hk,ha']
   have hc:cellOf env n=pure a:=by unfold cellOf;rw[ha']
   rw[hc]
   exact z0v r _ λx hx=>h x (List.mem_cons_of_mem _ hx)
  ·rw[if_neg hk,if_neg hk]
   exact z0v r _ λx hx=>h x (List.mem_cons_of_mem _ hx)
theorem z2a{look:Str->Option Addr}:∀(names:List (Str×NameKind)) (acc:List (Str×Addr)),(∀x c,acc.lookup x=some c->look x=some c)->∀x c,(clOf look names acc).lookup x=some c->look x=some c
 |[],acc,h=>h
 |(n,k)::r,acc,h=>by
  unfold clOf
  by_cases hk:(k==NameKind.free)=true
  ·rw[if_pos hk]
   cases e:look n with
   |none=>exact z2a r acc h
   |some a =>
    refine z2a r _ λx c q=>?_
    rw[List.lookup_cons]at q
    by_cases hx:(x==n)=true
    ·rw[hx]at q
     have:x=n:=by simpa using hx
     rw[this,e]
     exact q
    ·have hx':(x==n)=false:=by simpa using hx
     rw[hx']at q
     exact h x c q
  ·rw[if_neg hk]
   exact z2a r acc h
theorem q8j{look:Str->Option Addr}:∀(names:List (Str×NameKind)) (acc:List (Str×Addr)) (x:Str),(∃c,acc.lookup x=some c)->∃c,(clOf look names acc).lookup x=some c
 |[],_,_,h=>h
 |(n,k)::r,acc,x,h=>by
  unfold clOf
  by_cases hk:(k==NameKind.free)=true
  ·rw[if_pos hk]
   cases e:look n with
   |none=>exact q8j r acc x h
   |some a =>
    refine q8j r _ x ?_
    rw[List.lookup_cons]
    cases hx:x==n with
    |true=>exact⟨a,rfl⟩
    |false=>exact h
  ·rw[if_neg hk]
   exact q8j r acc x h
theorem z0a{look:Str->Option Addr}:∀(names:List (Str×NameKind)) (acc:List (Str×Addr)) (x:Str),(x,NameKind.free)∈names->(∃a,look x=some a)->∃c,(clOf look names acc).lookup x=some c
 |[],_,_,h,_=>by cases h
 |(n,k)::r,acc,x,h,ha=>by
  unfold clOf
  rcases List.mem_cons.mp h with e|e
  ·obtain⟨a,ha⟩:=ha
   have e1:x=n:=congrArg Prod.fst e
   have e2:k=NameKind.free:=(congrArg Prod.snd e).symm
   subst e1 e2
   rw[if_pos (by decide),ha]
   refine q8j r _ x ⟨a,?_⟩
   rw[List.lookup_cons]
   simp
  ·by_cases hk:(k==NameKind.free)=true
   ·rw[if_pos hk]
    cases e2:look n with
    |none=>exact z0a r acc x e ha
    |some a=>exact z0a r _ x e ha
   ·rw[if_neg hk]
    exact z0a r acc x e ha
theorem z2b{look:Str->Option Addr}:∀(names:List (Str×NameKind)) (acc:List (Str×Addr)) (x:Str) (c:Addr),(clOf look names acc).lookup x=some c->(x,NameKind.free)∈names\/acc.lookup x=some c
 |[],_,_,_,h=>.inr h
 |(n,k)::r,acc,x,c,h=>by
  unfold clOf at h
  by_cases hk:(k==NameKind.free)=true
  ·rw[if_pos hk]at h
   cases e:look n with
   |none=>rw[e]at h;exact(z2b r acc x c h).imp (List.mem_cons_of_mem _) id
   |some a =>
    rw[e]at h
    rcases z2b r _ x c h with z|z
    ·exact .inl (List.mem_cons_of_mem _ z)
    ·rw[List.lookup_cons]at z
     cases hx:x==n with
     |true =>
      have e1:x=n:=by simpa using hx
      have e2:k= .free:=by simpa using hk
      rw[e1,e2]
      exact .inl List.mem_cons_self
     |false=>rw[hx]at z;exact .inr z
  ·rw[if_neg hk]at h
   exact(z2b r acc x c h).imp (List.mem_cons_of_mem _) id
theorem q8h{env:Env}:∀{names:List (Str×NameKind)} {x:Str} {k:NameKind},
  (names.map λ(n,k)=>if(k==NameKind.free&&env.scope.kind== .function&&env.kindOf n==some .cell)then(n,NameKind.cell)else(n,k)).lookup x=some k →
  (k= .cell\/k= .free)->names.lookup x=some .cell\/(x,NameKind.free)∈names
 |[],_,_,h,_=>by simp at h
 |(n,j)::r,x,k,h,hk=>by
  rw[List.map_cons,List.lookup_cons]at h
  rw[List.lookup_cons]
  by_cases hj:(j==NameKind.free&&env.scope.kind== .function&&env.kindOf n==some .cell)=true
  ·simp only[hj,if_true]at h
   by_cases hx:(x==n)=true
   ·have e:x=n:=by simpa using hx
    have ej:j= .free:=by
     rw[Bool.and_eq_true,Bool.and_eq_true]at hj
     simpa using hj.1.1
    rw[e,←ej]
    exact .inr List.mem_cons_self
   ·have hx':(x==n)=false:=by simpa using hx
    rw[hx']at h ⊢
    exact(q8h h hk).imp id (List.mem_cons_of_mem _)
  ·simp only[hj]at h
   by_cases hx:(x==n)=true
   ·have e:x=n:=by simpa using hx
    rw[e]at h
    simp at h
    subst h
    rw[hx]
    rcases hk with q|q
    ·rw[q];exact .inl rfl
    ·rw[e,←q]
     exact .inr List.mem_cons_self
   ·have hx':(x==n)=false:=by simpa using hx
    simp[hx']at h
    rw[hx']
    exact(q8h (by simpa using h) hk).imp id (List.mem_cons_of_mem _)
def st0(nt:Nat)(ix:List Nat)(σ:St):St:=List.replicate nt none++ix.map λj=>(σ[j]?).join
theorem CompSc.free{X:Cx}{scope:Scope}{N:List Str}{nt:Nat}{ix:List Nat}(kind:scope.kind= .function)(cell:∀y∈scope.names,y.2= .cell->(y.1,NameKind.free)∉scope.names)
  (names:∀y∈scope.names,y.2= .local->scope.names.lookup y.1=some .local) (hf:∀y∈scope.names,y.2= .free->X.env.kindOf y.1=some .cell)
  (hl:N.length=nt+ix.length) (hx:∀(k j:Nat),ix[k]? =some j->∃x,N[nt+k]? =some x/\X.N[j]? =some x/\(x,NameKind.free)∈scope.names/\(relabel scope X.env).names.lookup x=some .cell) (ok:X.Ok) :
  ∃cl,CompSc X scope cl N (st0 nt ix):=by
 have hcl:∀y∈scope.names,y.2= .free->∃a,X.env.cells.lookup y.1=some a:=λy hy hk=>ok.has y.1 (.inl (hf y hy hk))
 refine⟨clOf (X.env.cells.lookup ·) scope.names [],?_,kind,λy hy hk=>?_,names,z2a scope.names [] (λx c e=>by simp at e),λx h=>?_,λσ=>?_,λσ i x v e1 e2 e3=>?_⟩
 ·have z:=z0v scope.names [] hcl
  unfold closureFor
  dsimp only
  rw[z]
  rfl
 ·cases q:(clOf (X.env.cells.lookup ·) scope.names []).lookup y.1 with
  |none=>rfl
  |some c =>
   rcases z2b _ _ _ _ q with z|z
   ·exact absurd z (cell y hy hk)
   ·cases z
 ·have hm:scope.names.lookup x=some .cell\/(x,NameKind.free)∈scope.names:=by
   rcases h with h|h
   ·exact q8h h (.inl rfl)
   ·exact q8h h (.inr rfl)
  exact hm.imp id λhm=>z0a scope.names [] x hm (hcl _ hm rfl)
 ·unfold st0
  rw[List.length_append,List.length_replicate,List.length_map,hl]
 ·unfold st0 at e2
  by_cases hi:i<nt
  ·rw[List.getElem?_append_left (by rw[List.length_replicate];exact hi),List.getElem?_replicate]at e2
   split at e2
   ·cases e2
   ·cases e2
  ·rw[List.getElem?_append_right (by rw[List.length_replicate];omega),List.length_replicate,List.getElem?_map]at e2
   cases ej:ix[i-nt]? with
   |none=>rw[ej]at e2;cases e2
   |some j =>
    rw[ej]at e2
    have e2':(σ[j]?).join=some v:=Option.some.inj e2
    obtain⟨x',n1,n2,n3,n4⟩:=hx (i-nt) j ej
    rw[show nt+(i-nt)=i by omega,e1]at n1
    cases n1
    obtain⟨c,hc⟩:=z0a (look:=(X.env.cells.lookup ·)) scope.names [] x n3 (hcl _ n3 rfl)
    refine⟨j,c,n2,?_,hf _ n3 rfl,.inl n4,hc⟩
    cases es:σ[j]? with
    |none=>rw[es]at e2';cases e2'
    |some o=>rw[es]at e2';rw[show o=some v from e2']
def Kp(a b:St):Prop:=∀(i:Nat) (v:V),a[i]? =some (some v)->b[i]? =some (some v)
theorem Kp.rep(n:Nat)(b:St):Kp (List.replicate n none) b:=λi v e=>by
 rw[List.getElem?_replicate]at e
 split at e
 ·cases e
 ·cases e
def tComp(wi:TI)(g:TG)(te:TE)(σ0:St->St):TE:=λσ H Q=>wi σ H λJ H1=>∀l,H1 l=none->∃W:Nat->Nat->List V->Hp->Prop,(∃m,W 0 m [] (upd H1 l (.lst []))) ∧
 ∀i m ys H2,W i m ys H2->(J.stop i H2/\Q (.ref l) H2) ∨
  (J.go i H2/\∀x H3,J.yld i H2 x H3->g x (σ0 σ) H3 λσ4 H4=>Kp (σ0 σ) σ4/\te σ4 H4 λy H5=>H5 l=some (.lst ys)/\ys.length<sizeLine/\∃m',m'<m/\W (i+1) m' (ys++[y]) (upd H5 l (.lst (ys++[y]))))
theorem Inv.unpin{X:Cx}{pins:List (Addr×Obj)}{σ:St}{H:Hp}{s:Shared}(I:Inv X pins σ H s):Inv X [] σ H s:=I.pins_of λ_ hp=>nomatch hp
theorem HOk.but{P:Program}{w:World}{H:Hp}{h h':Heap}{C:Addr}(x:HOk P w H h)(hC:H C=none)(sb:Heap.SameBut C h h'):HOk P w H h':=λb u e =>
 (x b u e).stay (λc v hc q=>(sb.2 c (by
  rintro rfl
  rcases hc with z|z
  ·rw[z,e]at hC;cases hC
  ·rw[hC]at z;cases z)).trans q) (λ_ q=>q) λ_ _ q=>q
section
variable{X:Cx}{pins:List (Addr×Obj)}{σ:St}{H:Hp}{s:Shared}{scope:Scope}{cl:List (Str×Addr)}{N:List Str}{σ0:St->St}{fp:List Addr}{h₁:Heap}{m:Str->Option Value}{E:Value->Shared->Prop}
theorem inv_comp{cl':List (Str×Addr)}(S:CompSc X scope cl N σ0)(G:CompCl cl cl' scope s.heap.objs.size h₁)(I:Inv X pins σ H s)(hf:∀b∈fp,FpOk X pins H b/\b<s.heap.objs.size)(kp:∀b o,s.heap.get? b=some o->h₁.get? b=some o)(hns:h₁.Ns s.heap.objs.size m)(t':Nat)(ht:s.toks<=t':=by first|exact Nat.le_refl _|exact Nat.le_succ _|assumption|omega):
  Inv (z1d X scope cl' s.heap.objs.size N s H fp (X.pn++pins) E) [] (σ0 σ) H { s with heap:=h₁,toks:=t' }:=by
 have nstk:∀b,b≠X.env.locals->b∉X.fs->b∉frs X.stack:=λb h1 h2 z=>by
  rcases List.mem_cons.mp (I.stkSub b z)with q|q
  ·exact h1 q
  ·exact h2 q
 have cab:∀x c,cl.lookup x=some c->c<s.heap.objs.size:=λx c e=>by
  obtain⟨v,o,ho,_⟩:=I.cell x c (S.sub x c e)
  exact Heap.lt_size ho
 refine⟨⟨I.mod,S.kind,I.ok.glob,I.ok.blt,Nat.le_refl _,λx y c a b=>?_,λx h=>(S.has x h).elim (G.own x) λ⟨c,e⟩=>⟨c,G.keep x c e⟩,λx c z e=>?_,I.ok.hd,I.ok.frames,.inl rfl,λb hb=>?_,I.bs,Nat.le_trans I.ok.bsz I.sz,λb o e hb=>?_,λb hb=>?_,I.stack,I.stkFree,I.tk⟩,
  rfl,I.bare,Un.kept kp,⟨m,hns,λi x v e1 e2 e3=>?_⟩,λx c e=>?_,I.hok.fresh (Nat.le_refl _),λx c e=>(G.look x c e).elim (λz=>I.hok.fresh (Nat.le_of_lt z.1)) λz=>I.freeC x c (S.sub x c z),λp hp=>?_,I.hok.kept kp,S.len σ,ht⟩
 ·by_cases hc:s.heap.objs.size<c
  ·exact G.inj x y c hc a b λz e=>Nat.lt_asymm hc (cab z c e)
  ·exact I.ok.inj x y c (S.sub x c ((G.look x c a).elim (λz=>absurd z.1 hc) id)) (S.sub y c ((G.look y c b).elim (λz=>absurd z.1 hc) id))
 ·rcases G.look x c e with q|q
  ·exact Nat.le_of_lt q.1
  ·have z2:(scope.names.lookup x==some NameKind.cell)=true:=z
   have z':scope.names.lookup x=some .cell:=by simpa using z2
   rw[S.cell _ (mem_of_lookup z') rfl]at q
   cases q
 ·obtain⟨⟨_,_,_,_,f4,_⟩,lt⟩:=hf b hb
  exact⟨Nat.ne_of_lt lt,λx c e=>(G.look x c e).elim (λz=>Nat.ne_of_gt (Nat.lt_trans lt z.1)) λz=>f4 x c (S.sub x c z)⟩
 ·obtain⟨⟨f0,_,_,f3,_⟩,_⟩:=hf b hb
  rcases f3 with z|z
  ·exact I.ok.noex b o e z
  ·exact absurd (Nat.lt_of_lt_of_le (Heap.lt_size e) (Nat.le_trans I.ok.bsz z)) (Nat.lt_irrefl _)
 ·obtain⟨⟨_,f1,f2,_⟩,_⟩:=hf b hb
  exact nstk b f1 f2
 ·obtain⟨j,c,n1,n2,n3,n4,n5⟩:=S.fv σ i x v e1 e2 e3
  obtain⟨mX,_,hl⟩:=I.loc
  obtain⟨u,r,l⟩:=hl j x v n1 n2 (.inr (.inl n3))
  refine⟨u,r,.inr ⟨n4,c,G.keep x c n5,?_⟩⟩
  rcases l with⟨k,_⟩|⟨_,c',ec,o,ho,hd⟩
  ·have k':X.env.scope.names.lookup x=some .local:=k
   have n3':X.env.scope.names.lookup x=some .cell:=n3
   rw[k']at n3';cases n3'
  ·have q:=S.sub x c n5
   rw[q]at ec;cases ec
   exact⟨o,kp _ _ ho,hd⟩
 ·rcases G.look x c e with z|z
  ·exact⟨none,z.2⟩
  ·obtain⟨v,o,ho,hd⟩:=I.cell x c (S.sub x c z)
   exact⟨v,o,kp _ _ ho,hd⟩
 ·have hp':p∈X.pn++pins:=by
   rcases List.mem_append.mp hp with z|z
   ·exact z
   ·cases z
  obtain⟨a,b,c,d,e⟩:=I.pin p hp'
  exact⟨kp _ _ a,b,Nat.ne_of_lt (Heap.lt_size a),nstk _ c d,e⟩
end
end L2
namespace L2
open PySem PySem.Spec PyProof.Rows
inductive Cp where
 |lst (a:Addr)|tup (a:Addr)|txt (x:Str)
def q2r(x:Str):List V:=x.cps.toList.map λc=>V.str ⟨#[c]⟩
def Cp.val:Cp->V
 | .lst a=>.ref a
 | .tup a=>.ref a
 | .txt x=>.str x
def Cp.at(K:PySem.W.Frag)(H:Hp):Cp->List V->Prop
 | .lst a=>SqL K H a
 | .tup a=>SqT K H a
 | .txt x=>λxs=>xs=q2r x
def Cp.itr(h:Heap)(it:Addr)(i:Nat):Cp->Prop
 | .lst a=>h.IsListIter it a i
 | .tup a=>h.IsTupleIter it a i
 | .txt x=>∃t,h.IsStrIter it (strIterType x) x t i
def Cp.src(h:Heap):Cp->List V->Prop
 | .lst a=>λxs=>∃its,Vals xs its/\h.IsList a its.toArray
 | .tup a=>λxs=>∃its,Vals xs its/\h.IsTuple a its.toArray
 | .txt x=>λxs=>xs=q2r x
def Cp.off(b:Addr):Cp->Prop
 | .lst a=>a≠b
 | .tup a=>a≠b
 | .txt _=>True
section
variable{X:Cx}{pins:List (Addr×Obj)}{σ:St}{H:Hp}{s:Shared}{c d:Cp}{xs ys:List V}
theorem Cp.src_of(I:Inv X pins σ H s)(h:c.at X.K H xs):c.src s.heap xs:=by
 cases c with
 |lst a=>obtain⟨its,r,p,_⟩:=I.list h;exact⟨its,r,p.isList⟩
 |tup a=>obtain⟨its,r,p,_⟩:=I.tuple h;exact⟨its,r,p⟩
 |txt x=>exact h
theorem Cp.at_inj(I:Inv X pins σ H s)(h:c.at X.K H xs)(h':c.at X.K H ys):xs=ys:=by
 cases c with
 |lst a=>exact I.list_inj h h'
 |tup a=>exact I.tuple_inj h h'
 |txt x=>exact(show xs=q2r x from h).trans (show ys=q2r x from h').symm
theorem Cp.off_of {h:Heap} {b:Addr} {o:Obj} {T:String} (hs:c.src h xs) (hb:h.get? b=some o) (hc:o.cls= .type T) (n1:T≠ "list") (n2:T≠ "tuple"):c.off b:=by
 cases c with
 |lst a =>
  obtain⟨its,_,o',ho,hc',_⟩:=hs
  intro e
  rw[e,hb]at ho
  cases ho
  rw[hc]at hc'
  injection hc' with q
  exact n1 q
 |tup a =>
  obtain⟨its,_,o',ho,hc',_⟩:=hs
  intro e
  rw[e,hb]at ho
  cases ho
  rw[hc]at hc'
  injection hc' with q
  exact n2 q
 |txt x=>trivial
theorem Cp.off_new{h:Heap}{b:Addr}(hs:c.src h xs)(hb:h.objs.size<=b):c.off b:=by
 cases c with
 |lst a =>
  obtain⟨its,_,o',ho,_⟩:=hs
  exact Nat.ne_of_lt (Nat.lt_of_lt_of_le (Heap.lt_size ho) hb)
 |tup a =>
  obtain⟨its,_,o',ho,_⟩:=hs
  exact Nat.ne_of_lt (Nat.lt_of_lt_of_le (Heap.lt_size ho) hb)
 |txt x=>trivial
theorem Cp.src_ext{h h':Heap}{b:Addr}(hs:c.src h xs)(hx:Heap.ExtBut b h h')(ho:c.off b):c.src h' xs:=by
 cases c with
 |lst a=>obtain⟨its,r,p⟩:=hs;exact⟨its,r,p.extBut hx ho⟩
 |tup a=>obtain⟨its,r,p⟩:=hs;exact⟨its,r,p.extBut hx ho⟩
 |txt x=>exact hs
theorem Cp.src_keep{h h':Heap}(hs:c.src h xs)(hx:∀b o,h.get? b=some o->h'.get? b=some o):c.src h' xs:=by
 cases c with
 |lst a=>obtain⟨its,r,o,ho,q⟩:=hs;exact⟨its,r,o,hx _ _ ho,q⟩
 |tup a=>obtain⟨its,r,o,ho,q⟩:=hs;exact⟨its,r,o,hx _ _ ho,q⟩
 |txt x=>exact hs
theorem Cp.itr_obj{h:Heap}{it:Addr}{i:Nat}(q:c.itr h it i):∃o T vs,h.get? it=some o/\o.cls= .type T/\o.data= .fields vs/\T≠ "list" /\T≠ "tuple" :=by
 cases c with
 |lst a=>obtain⟨o,ho,hc,hd⟩:=q;exact⟨o,_,_,ho,hc,hd,by decide,by decide⟩
 |tup a=>obtain⟨o,ho,hc,hd⟩:=q;exact⟨o,_,_,ho,hc,hd,by decide,by decide⟩
 |txt x =>
  obtain⟨t,o,ho,hc,hd⟩:=q
  refine⟨o,_,_,ho,hc,hd,?_,?_⟩
  ·unfold strIterType;split<;>decide
  ·unfold strIterType;split<;>decide
theorem Cp.itr_at{h h':Heap}{it:Addr}{i:Nat}(q:c.itr h it i)(e:∀o,h.get? it=some o->h'.get? it=some o):c.itr h' it i:=by
 cases c with
 |lst a=>obtain⟨o,ho,r⟩:=q;exact⟨o,e _ ho,r⟩
 |tup a=>obtain⟨o,ho,r⟩:=q;exact⟨o,e _ ho,r⟩
 |txt x=>obtain⟨t,o,ho,r⟩:=q;exact⟨t,o,e _ ho,r⟩
end
section
variable{prog:Program}{w:World}{A:Around}{E:Value->Shared->Prop}{s:Shared}{c d:Cp}{xs ys:List V}
theorem z0n{it t:Addr}{i:Nat}{items}{x:Value}{Q:Value->Shared->Prop}(hit:s.heap.IsTupleIter it t i)
  (ht:s.heap.IsTuple t items) (hx:items[i]? =some x)
  (hQ:∀h',h'.IsTupleIter it t (i+1)->Heap.SameBut it s.heap h'->Q x { s with heap:=h' }) :
  wpAny (model prog w) A (Builtin.SmallTypes.nextOf (.ref it)) Q E s:=by
 obtain⟨o,ho,hc,hd⟩:=id hit
 obtain⟨ol,hol,_,nl,hdl⟩:=ht
 unfold Builtin.SmallTypes.nextOf
 refine wpAny_bind (wpAny_callSpecial?_slot (name:=Str.ofString "__next__") hit.typeIs F.slot_tuple_iterator_next
  (wpAny_call_entry F.slot_tuple_iterator_next hit.typeIs F.entry_tuple_iterator_next ?_ (F.args_tuple_iterator_next_1 _)))
 show wpAny _ _ (field (.ref it) 0 >>= _) _ _ s
 refine wpAny_bind (wpAny_field ho hd (x:=.ref t) rfl ?_)
 show wpAny _ _ (if(Value.ref t==Value.none)=true then _ else _) _ _ s
 rw[if_neg (show ¬((Value.ref t==Value.none)=true) from Bool.false_ne_true)]
 show wpAny _ _ (field (.ref it) 1 >>= _) _ _ s
 refine wpAny_bind (wpAny_field ho hd (x:=.int i 0) rfl ?_)
 show wpAny _ _ (seqItems? (.ref t) >>= _) _ _ s
 refine wpAny_bind (wpAny_seqItems hol hdl ?_)
 simp only[Int.toNat_natCast,hx]
 refine wpAny_bind (wpAny_setField ho hd (by simp) (wpAny_pure ⟨x,rfl,wpAny_pure (hQ _ ?_ (Heap.SameBut.update ..))⟩))
 exact⟨_,Heap.get?_update_self _ ho (Obj.isFreed_of_fields (Obj.data_mapFields hd _)),(Obj.cls_mapFields ..).trans hc,by
  rw[Obj.data_mapFields hd];simp[rawInt]⟩
theorem z1l{it t:Addr}{i:Nat}{items}{Q:Value->Shared->Prop}(hh:A.handled=none)
  (hit:s.heap.IsTupleIter it t i) (ht:s.heap.IsTuple t items) (hx:items[i]? =none)
  (hE:∀h' e,Heap.ExtBut it s.heap h'->(∃o,h'.get? e=some o/\o.cls= .type "StopIteration")->E (.ref e) { s with heap:=h' }) :
  wpAny (model prog w) A (Builtin.SmallTypes.nextOf (.ref it)) Q E s:=by
 obtain⟨o,ho,hc,hd⟩:=id hit
 obtain⟨ol,hol,_,nl,hdl⟩:=ht
 unfold Builtin.SmallTypes.nextOf
 refine wpAny_bind (wpAny_callSpecial?_slot (name:=Str.ofString "__next__") hit.typeIs F.slot_tuple_iterator_next
  (wpAny_call_entry F.slot_tuple_iterator_next hit.typeIs F.entry_tuple_iterator_next ?_ (F.args_tuple_iterator_next_1 _)))
 show wpAny _ _ (field (.ref it) 0 >>= _) _ _ s
 refine wpAny_bind (wpAny_field ho hd (x:=.ref t) rfl ?_)
 show wpAny _ _ (if(Value.ref t==Value.none)=true then _ else _) _ _ s
 rw[if_neg (show ¬((Value.ref t==Value.none)=true) from Bool.false_ne_true)]
 show wpAny _ _ (field (.ref it) 1 >>= _) _ _ s
 refine wpAny_bind (wpAny_field ho hd (x:=.int i 0) rfl ?_)
 show wpAny _ _ (seqItems? (.ref t) >>= _) _ _ s
 refine wpAny_bind (wpAny_seqItems hol hdl ?_)
 simp only[Int.toNat_natCast,hx]
 refine wpAny_bind (wpAny_rule (wpAny_bind (wpAny_setField ho hd (by simp) ?_)))
 show wpAny _ _ (newExc (.type "StopIteration") [] >>= _) _ _ _
 refine wpAny_bind ?_
 simp only[newExc,newTuple]
 refine wpAny_bind (wpAny_newObj_type ?_ (by size_fits))
 refine wpAny_bind (m:=firstArgMember _ _) (wpAny_of_eq (a:=Value.none) (by first|rfl|(simp only[firstArgMember];rfl)) ?_)
 refine wpAny_newObj_type ?_ (by size_fits)
 simp only[raiseNew]
 refine wpAny_bind (wpAny_handled ?_)
 first|rw[show A.in1.handled=none from hh]|rw[hh]
 refine wpAny_bind (wpAny_pure (wpAny_throw ?_))
 exact hE _ _ (((Heap.SameBut.update ..).extBut.push _).push _) ⟨_,Heap.get?_push_size _ rfl,rfl⟩
theorem q7o{x:Str}{i:Nat}{v:V}(h:(q2r x)[i]? =some v):∃k,x.cps[i]? =some k/\v= .str ⟨#[k]⟩:=by
 unfold q2r at h
 rw[List.getElem?_map]at h
 cases e:x.cps.toList[i]? with
 |none=>rw[e]at h;cases h
 |some k =>
  rw[e]at h
  exact⟨k,by simpa using e,(Option.some.inj h).symm⟩
theorem signs_end{x:Str}{i:Nat}(h:(q2r x)[i]? =none):x.cps[i]? =none:=by
 unfold q2r at h
 rw[List.getElem?_map]at h
 cases e:x.cps.toList[i]? with
 |none=>simpa using e
 |some k=>rw[e]at h;cases h
theorem Cp.item{it:Addr}{i:Nat}{x:V}{Q:Value->Shared->Prop}(hit:c.itr s.heap it i)(hs:c.src s.heap xs)(hx:xs[i]? =some x)
  (hQ:∀u h' tk,RelV x u->c.itr h' it (i+1)->Heap.SameBut it s.heap h'->Q u { s with heap:=h',toks:=tk }) :
  wpAny (model prog w) A (Builtin.SmallTypes.nextOf (.ref it)) Q E s:=by
 cases c with
 |lst a =>
  obtain⟨its,r,p⟩:=hs
  obtain⟨u,hu,ru⟩:=r.get hx
  exact wpAny_nextOf_list_item hit p (x:=u) (by simpa using hu) λh' q sb=>hQ u h' s.toks ru q sb
 |tup a =>
  obtain⟨its,r,p⟩:=hs
  obtain⟨u,hu,ru⟩:=r.get hx
  exact z0n hit p (x:=u) (by simpa using hu) λh' q sb=>hQ u h' s.toks ru q sb
 |txt x' =>
  obtain⟨t,q⟩:=hit
  rw[show xs=q2r x' from hs]at hx
  obtain⟨k,hk,rfl⟩:=q7o hx
  unfold strIterType at q
  by_cases ha:(x'.cps.all (·<128))=true
  ·rw[if_pos ha]at q
   exact wpAny_nextOf_ascii_item q hk λh' q' sb=>hQ _ h' _ ⟨_,rfl⟩ ⟨t,by unfold strIterType;rw[if_pos ha];exact q'⟩ sb
  ·rw[if_neg ha]at q
   exact wpAny_nextOf_wide_item q hk λh' q' sb=>hQ _ h' _ ⟨_,rfl⟩ ⟨t,by unfold strIterType;rw[if_neg ha];exact q'⟩ sb
theorem Cp.fin{it:Addr}{i:Nat}{Q:Value->Shared->Prop}(hh:A.handled=none)(hit:c.itr s.heap it i)(hs:c.src s.heap xs)(hx:xs[i]? =none)
  (hE:∀h' e,Heap.ExtBut it s.heap h'->(∃o,h'.get? e=some o/\o.cls= .type "StopIteration")->E (.ref e) { s with heap:=h' }) :
  wpAny (model prog w) A (Builtin.SmallTypes.nextOf (.ref it)) Q E s:=by
 cases c with
 |lst a =>
  obtain⟨its,r,p⟩:=hs
  exact wpAny_nextOf_list_end hh hit p (by simpa using r.none_of hx) hE
 |tup a =>
  obtain⟨its,r,p⟩:=hs
  exact z1l hh hit p (by simpa using r.none_of hx) hE
 |txt x' =>
  obtain⟨t,q⟩:=hit
  rw[show xs=q2r x' from hs]at hx
  have hk:=signs_end hx
  unfold strIterType at q
  by_cases ha:(x'.cps.all (·<128))=true
  ·rw[if_pos ha]at q
   exact wpAny_nextOf_ascii_end hh q hk hE
  ·rw[if_neg ha]at q
   exact wpAny_nextOf_wide_end hh q hk hE
structure ZipOff(z TI TO i1 i2:Addr):Prop where
 TIz:TI≠z
 TOz:TO≠z
 i1z:i1≠z
 i2z:i2≠z
 TITO:TI≠TO
 TIi1:TI≠i1
 TIi2:TI≠i2
 TOi1:TO≠i1
 TOi2:TO≠i2
 i12:i1≠i2
structure ZipSt(h:Heap)(z TI TO i1 i2:Addr)(c d:Cp)(f0:Value)(i:Nat):Prop where
 zz:IsZip h z TI TO f0
 ti:IsPair h TI (.ref i1) (.ref i2)
 to:∃a b,IsPair h TO a b
 h1:c.itr h i1 i
 h2:d.itr h i2 i
 c1:c.off TO
 c2:d.off TO
theorem zip_item{z TI TO i1 i2:Addr}{i:Nat}{x y:V}{Q:Option Value->Shared->Prop}(D:ZipOff z TI TO i1 i2)(Z:ZipSt s.heap z TI TO i1 i2 c d .none i)
  (sc:c.src s.heap xs) (sd:d.src s.heap ys) (hx:xs[i]? =some x) (hy:ys[i]? =some y)
  (hQ:∀u v h' tk,RelV x u->RelV y v->ZipSt h' z TI TO i1 i2 c d (rawInt s.heap.objs.size) (i+1)->IsPair h' s.heap.objs.size u v →
   (∀b o,b≠z->b≠TO->b≠i1->b≠i2->s.heap.get? b=some o->h'.get? b=some o)->Q (some (.ref s.heap.objs.size)) { s with heap:=h',toks:=tk }) :
  wpAny (model prog w) A (pyNext (.ref z)) Q E s:=by
 obtain⟨hz,hTI,⟨a,b,hTO⟩,h1,h2,c1,c2⟩:=id Z
 have hT:s.TypeIs (.ref z) "zip" :=⟨_,hz,rfl⟩
 obtain⟨oi1,T1,_,hi1,ci1,_,n11,n12⟩:=Cp.itr_obj h1
 obtain⟨oi2,T2,_,hi2,ci2,_,n21,n22⟩:=Cp.itr_obj h2
 have cz:c.off z:=Cp.off_of sc hz rfl (by decide) (by decide)
 have dz:d.off z:=Cp.off_of sd hz rfl (by decide) (by decide)
 have ci:c.off i1:=Cp.off_of sc hi1 ci1 n11 n12
 have di:d.off i1:=Cp.off_of sd hi1 ci1 n11 n12
 unfold pyNext
 refine wpAny_bind (wpAny_attempt (wpAny_callSpecial?_slot (name:=Str.ofString "__next__") hT F.slot_zip_next
  (wpAny_call_entry F.slot_zip_next hT F.entry_zip_next ?_ (F.args_zip_next_1 _))))
 show wpAny _ _ (field (.ref z) 2 >>= _) _ _ _
 refine wpAny_bind (wpAny_field hz rfl (x:=.bool false) rfl ?_)
 show wpAny _ _ (field (.ref z) 3 >>= _) _ _ _
 refine wpAny_bind (wpAny_field hz rfl (x:=.ref TI) rfl ?_)
 refine wpAny_bind (wpAny_seqItems hTI rfl ?_)
 show wpAny _ _ (Builtin.SmallTypes.ownedTupleIsFree (.ref z) >>= _) _ _ _
 refine wpAny_bind ?_
 unfold Builtin.SmallTypes.ownedTupleIsFree
 refine wpAny_bind (wpAny_field hz rfl (x:=.none) rfl (wpAny_pure ?_))
 simp only[if_true]
 refine wpAny_bind (wpAny_rule ?_)
 refine wpAny_bind (wpAny_field hz rfl (x:=.ref TO) rfl ?_)
 refine wpAny_bind (wpAny_setField_rec hz (by simp) λh₁ hz₁ hs₁=>?_)
 replace hz₁:IsZip h₁ z TI TO .ellipsis:=hz₁
 refine wpAny_bind ?_
 simp only[List.zipIdx_cons,List.zipIdx_nil,List.forIn_cons,List.forIn_nil]
 refine wpAny_bind (wpAny_bind (wpAny_onRaise ?_))
 show wpAny _ _ (Builtin.SmallTypes.nextOf (.ref i1) >>= _) _ _ _
 refine wpAny_bind (Cp.item (c:=c) (Cp.itr_at h1 λo e=>hs₁.extBut _ _ D.i1z e) (Cp.src_ext sc hs₁.extBut cz) hx λu h₂ tk₂ ru h1₂ hs₂=>wpAny_pure ?_)
 have hTO₂:IsPair h₂ TO a b:=hs₂.extBut _ _ D.TOi1 (hs₁.extBut _ _ D.TOz hTO)
 refine wpAny_bind (wpAny_seqItems hTO₂ rfl ?_)
 refine wpAny_bind (wpAny_updateSeq_pair hTO₂ λh₃ hTO₃ hs₃=>?_)
 replace hTO₃:IsPair h₃ TO u b:=hTO₃
 refine wpAny_bind (wpAny_letGo (wpAny_pure ?_))
 refine wpAny_bind (wpAny_bind (wpAny_onRaise ?_))
 show wpAny _ _ (Builtin.SmallTypes.nextOf (.ref i2) >>= _) _ _ _
 refine wpAny_bind (Cp.item (c:=d) (Cp.itr_at h2 λo e=>hs₃.extBut _ _ D.TOi2.symm (hs₂.extBut _ _ D.i12.symm (hs₁.extBut _ _ D.i2z e))) (Cp.src_ext (Cp.src_ext (Cp.src_ext sd hs₁.extBut dz) hs₂.extBut di) hs₃.extBut c2) hy λv h₄ tk₄ rv h2₄ hs₄=>wpAny_pure ?_)
 have hTO₄:IsPair h₄ TO u b:=hs₄.extBut _ _ D.TOi2 hTO₃
 refine wpAny_bind (wpAny_seqItems hTO₄ rfl ?_)
 refine wpAny_bind (wpAny_updateSeq_pair hTO₄ λh₅ hTO₅ hs₅=>?_)
 replace hTO₅:IsPair h₅ TO u v:=hTO₅
 refine wpAny_bind (wpAny_letGo (wpAny_pure (wpAny_pure ?_)))
 refine wpAny_bind (wpAny_seqItems hTO₅ rfl ?_)
 refine wpAny_bind (wpAny_newTuple ?_)
 have hsz:h₅.objs.size=s.heap.objs.size:=by rw[hs₅.1,hs₄.1,hs₃.1,hs₂.1,hs₁.1]
 have hz₅:IsZip h₅ z TI TO .ellipsis:=hs₅.extBut _ _ D.TOz.symm (hs₄.extBut _ _ D.i2z.symm (hs₃.extBut _ _ D.TOz.symm (hs₂.extBut _ _ D.i1z.symm hz₁)))
 have hk₅:∀e o,e≠z->e≠TO->e≠i1->e≠i2->s.heap.get? e=some o->h₅.get? e=some o:=λe o e1 e2 e3 e4 q =>
  hs₅.extBut _ _ e2 (hs₄.extBut _ _ e4 (hs₃.extBut _ _ e2 (hs₂.extBut _ _ e3 (hs₁.extBut _ _ e1 q))))
 have h1₅:c.itr h₅ i1 (i+1):=Cp.itr_at h1₂ λo e=>hs₅.extBut _ _ D.TOi1.symm (hs₄.extBut _ _ D.i12 (hs₃.extBut _ _ D.TOi1.symm e))
 have h2₅:d.itr h₅ i2 (i+1):=Cp.itr_at h2₄ λo e=>hs₅.extBut _ _ D.TOi2.symm e
 have hzlt:z<h₅.objs.size:=Heap.lt_size hz₅
 show wpAny _ _ (Builtin.SmallTypes.ownedTupleHandOut (.ref z) (.ref h₅.objs.size) >>= _) _ _ _
 refine wpAny_bind ?_
 unfold Builtin.SmallTypes.ownedTupleHandOut
 have hz₆:IsZip (h₅.push { cls:=.type "tuple",data:=.seq #[u,v] }) z TI TO .ellipsis:=Heap.get?_push_of_some _ hz₅
 refine wpAny_bind (wpAny_setField_rec hz₆ (by simp) λh₇ hz₇ hs₇=>?_)
 replace hz₇:IsZip h₇ z TI TO (rawInt h₅.objs.size):=hz₇
 refine wpAny_setField_rec hz₇ (by simp) λh₈ hz₈ hs₈=>?_
 replace hz₈:IsZip h₈ z TI TO (rawInt h₅.objs.size):=hz₈
 have up:∀e o,e≠z->h₅.get? e=some o->h₈.get? e=some o:=λe o e1 q=>hs₈.extBut _ _ e1 (hs₇.extBut _ _ e1 (Heap.get?_push_of_some _ q))
 have hT₈:IsPair h₈ h₅.objs.size u v:=hs₈.extBut _ _ (Nat.ne_of_gt hzlt) (hs₇.extBut _ _ (Nat.ne_of_gt hzlt) (Heap.get?_push_size _ rfl))
 rw[hsz]at hz₈ hT₈
 refine wpAny_pure ⟨_,rfl,wpAny_pure ?_⟩
 show Q (some (.ref h₅.objs.size)) _
 rw[hsz]
 exact hQ u v h₈ _ ru rv ⟨hz₈,up _ _ D.TIz (hk₅ _ _ D.TIz D.TITO D.TIi1 D.TIi2 hTI),⟨_,_,up _ _ D.TOz hTO₅⟩,Cp.itr_at h1₅ λo e=>up _ o D.i1z e,Cp.itr_at h2₅ λo e=>up _ o D.i2z e,c1,c2⟩ hT₈
  λe o e1 e2 e3 e4 q=>up e o e1 (hk₅ e o e1 e2 e3 e4 q)
theorem zip_fin{z TI TO i1 i2:Addr}{i:Nat}{Q:Option Value->Shared->Prop}(hh:A.handled=none)(D:ZipOff z TI TO i1 i2)(Z:ZipSt s.heap z TI TO i1 i2 c d .none i)
  (sc:c.src s.heap xs) (sd:d.src s.heap ys) (hend:xs[i]? =none\/ys[i]? =none)
  (hQ:∀h' tk,(∀b o,b≠z->b≠TO->b≠i1->b≠i2->s.heap.get? b=some o->h'.get? b=some o)->Q none { s with heap:=h',toks:=tk }) :
  wpAny (model prog w) A (pyNext (.ref z)) Q E s:=by
 obtain⟨hz,hTI,⟨a,b,hTO⟩,h1,h2,c1,c2⟩:=id Z
 have hT:s.TypeIs (.ref z) "zip" :=⟨_,hz,rfl⟩
 obtain⟨oi1,T1,_,hi1,ci1,_,n11,n12⟩:=Cp.itr_obj h1
 have cz:c.off z:=Cp.off_of sc hz rfl (by decide) (by decide)
 have dz:d.off z:=Cp.off_of sd hz rfl (by decide) (by decide)
 have ci:c.off i1:=Cp.off_of sc hi1 ci1 n11 n12
 have di:d.off i1:=Cp.off_of sd hi1 ci1 n11 n12
 have stop:∀(h':Heap) (e:Addr) (tk:Nat),(∃o,h'.get? e=some o/\o.cls= .type "StopIteration")->(∀b o,b≠z->b≠TO->b≠i1->b≠i2->s.heap.get? b=some o->h'.get? b=some o) →
   wpAny (model prog w) A (isInstance (.ref e) (.type "StopIteration") >>= λb=>if b=true then pure (none:Option Value)else throw (.ref e)) Q E { s with heap:=h',toks:=tk }:=by
  intro h' e tk he hk
  obtain⟨o,ho,hc⟩:=he
  refine wpAny_bind (wpAny_isInstance (T:= "StopIteration") (b:=true) ⟨o,ho,hc⟩ isSubtype_stop ?_)
  exact wpAny_pure (hQ _ _ hk)
 unfold pyNext
 refine wpAny_bind (wpAny_attempt (wpAny_callSpecial?_slot (name:=Str.ofString "__next__") hT F.slot_zip_next
  (wpAny_call_entry F.slot_zip_next hT F.entry_zip_next ?_ (F.args_zip_next_1 _))))
 show wpAny _ _ (field (.ref z) 2 >>= _) _ _ _
 refine wpAny_bind (wpAny_field hz rfl (x:=.bool false) rfl ?_)
 show wpAny _ _ (field (.ref z) 3 >>= _) _ _ _
 refine wpAny_bind (wpAny_field hz rfl (x:=.ref TI) rfl ?_)
 refine wpAny_bind (wpAny_seqItems hTI rfl ?_)
 show wpAny _ _ (Builtin.SmallTypes.ownedTupleIsFree (.ref z) >>= _) _ _ _
 refine wpAny_bind ?_
 unfold Builtin.SmallTypes.ownedTupleIsFree
 refine wpAny_bind (wpAny_field hz rfl (x:=.none) rfl (wpAny_pure ?_))
 simp only[if_true]
 refine wpAny_bind (wpAny_rule ?_)
 refine wpAny_bind (wpAny_field hz rfl (x:=.ref TO) rfl ?_)
 refine wpAny_bind (wpAny_setField_rec hz (by simp) λh₁ hz₁ hs₁=>?_)
 replace hz₁:IsZip h₁ z TI TO .ellipsis:=hz₁
 refine wpAny_bind ?_
 simp only[List.zipIdx_cons,List.zipIdx_nil,List.forIn_cons,List.forIn_nil]
 refine wpAny_bind (wpAny_bind (wpAny_onRaise ?_))
 show wpAny _ _ (Builtin.SmallTypes.nextOf (.ref i1) >>= _) _ _ _
 cases hx:xs[i]? with
 |none =>
  refine wpAny_bind (Cp.fin (c:=c) hh (Cp.itr_at h1 λo e=>hs₁.extBut _ _ D.i1z e) (Cp.src_ext sc hs₁.extBut cz) hx λh₂ e hs₂ he=>?_)
  obtain⟨oe,hoe,hce⟩:=he
  have hz₂:IsZip h₂ z TI TO .ellipsis:=hs₂ _ _ D.i1z.symm hz₁
  have hez:e≠z:=λx=>by subst x;rw[hz₂]at hoe;cases hoe;simp at hce
  refine wpAny_setField_rec hz₂ (by simp) λh₃ _ hs₃=>?_
  exact stop h₃ e _ ⟨oe,hs₃.extBut _ _ hez hoe,hce⟩ λk o c1 _ c3 _ x=>hs₃.extBut _ _ c1 (hs₂ _ _ c3 (hs₁.extBut _ _ c1 x))
 |some x =>
  have hy:ys[i]? =none:=by rcases hend with h|h;rw[hx]at h;cases h;exact h
  refine wpAny_bind (Cp.item (c:=c) (Cp.itr_at h1 λo e=>hs₁.extBut _ _ D.i1z e) (Cp.src_ext sc hs₁.extBut cz) hx λu h₂ tk₂ ru h1₂ hs₂=>wpAny_pure ?_)
  have hTO₂:IsPair h₂ TO a b:=hs₂.extBut _ _ D.TOi1 (hs₁.extBut _ _ D.TOz hTO)
  refine wpAny_bind (wpAny_seqItems hTO₂ rfl ?_)
  refine wpAny_bind (wpAny_updateSeq_pair hTO₂ λh₃ hTO₃ hs₃=>?_)
  refine wpAny_bind (wpAny_letGo (wpAny_pure ?_))
  refine wpAny_bind (wpAny_bind (wpAny_onRaise ?_))
  show wpAny _ _ (Builtin.SmallTypes.nextOf (.ref i2) >>= _) _ _ _
  refine wpAny_bind (Cp.fin (c:=d) hh (Cp.itr_at h2 λo e=>hs₃.extBut _ _ D.TOi2.symm (hs₂.extBut _ _ D.i12.symm (hs₁.extBut _ _ D.i2z e))) (Cp.src_ext (Cp.src_ext (Cp.src_ext sd hs₁.extBut dz) hs₂.extBut di) hs₃.extBut c2) hy λh₄ e hs₄ he=>?_)
  obtain⟨oe,hoe,hce⟩:=he
  have hz₄:IsZip h₄ z TI TO .ellipsis:=hs₄ _ _ D.i2z.symm (hs₃.extBut _ _ D.TOz.symm (hs₂.extBut _ _ D.i1z.symm hz₁))
  have hez:e≠z:=λx=>by subst x;rw[hz₄]at hoe;cases hoe;simp at hce
  refine wpAny_setField_rec hz₄ (by simp) λh₅ _ hs₅=>?_
  exact stop h₅ e _ ⟨oe,hs₅.extBut _ _ hez hoe,hce⟩ λk o c1 c2 c3 c4 x=>hs₅.extBut _ _ c1 (hs₄ _ _ c4 (hs₃.extBut _ _ c2 (hs₂.extBut _ _ c3 (hs₁.extBut _ _ c1 x))))
def Cp.itObj(t:Tok):Cp->Obj
 | .lst a=>{ cls:=.type "list_iterator",data:=.fields #[.ref a,.int 0 0] }
 | .tup a=>{ cls:=.type "tuple_iterator",data:=.fields #[.ref a,.int 0 0] }
 | .txt x=>{ cls:=.type (strIterType x),data:=.fields #[.str x t,.int 0 0] }
def Cp.value(t:Tok):Cp->Value
 | .lst a=>.ref a
 | .tup a=>.ref a
 | .txt x=>.str x t
theorem Cp.value_of{u:Value}(r:RelV c.val u):∃t,u=c.value t:=by
 cases c with
 |lst a=>exact⟨0,r⟩
 |tup a=>exact⟨0,r⟩
 |txt x=>exact r
theorem Cp.iter{t:Tok}{Q:Value->Shared->Prop}(hs:c.src s.heap xs)(hQ:Q (.ref s.heap.objs.size) { s with heap:=s.heap.push (c.itObj t) }):wpAny (model prog w) A (pyIter (c.value t)) Q E s:=by
 cases c with
 |lst a=>obtain⟨its,_,p⟩:=hs;exact wpAny_pyIter_list p hQ
 |tup a=>obtain⟨its,_,p⟩:=hs;exact wpAny_pyIter_tuple p hQ
 |txt x=>exact wpAny_pyIter_strU hQ
theorem Cp.itr_new{t:Tok}{h:Heap}{it:Addr}(e:h.get? it=some (c.itObj t)):c.itr h it 0:=by
 cases c with
 |lst a=>exact⟨_,e,rfl,rfl⟩
 |tup a=>exact⟨_,e,rfl,rfl⟩
 |txt x=>exact⟨t,_,e,rfl,rfl⟩
abbrev zH1(h:Heap)(o1:Obj):Heap:=h.push o1
abbrev zH2(h:Heap)(o1 o2:Obj):Heap:=(zH1 h o1).push o2
abbrev zH3(h:Heap)(o1 o2:Obj):Heap:=(zH2 h o1 o2).push { cls:=.type "tuple",data:=.seq #[.ref h.objs.size,.ref (zH1 h o1).objs.size] }
abbrev zH4(h:Heap)(o1 o2:Obj):Heap:=(zH3 h o1 o2).push { cls:=.type "tuple",data:=.seq #[.none,.none] }
abbrev zH5(h:Heap)(o1 o2:Obj):Heap:=(zH4 h o1 o2).push { cls:=.type "zip",data:=.fields #[.none,.bool false,.bool false,.ref (zH2 h o1 o2).objs.size,.ref (zH3 h o1 o2).objs.size] }
theorem meets_zip(c d:Cp)(t1 t2:Tok)(xs ys:List V):
  Meets (Builtin.«zip.__new__» ⟨[.type "zip",c.value t1,d.value t2],[]⟩) (λ_ R s=>c.src s.heap xs/\d.src s.heap ys ∧
   R (.ok (.ret (.ref (zH4 s.heap (c.itObj t1) (d.itObj t2)).objs.size))) { s with heap:=zH5 s.heap (c.itObj t1) (d.itObj t2) }) :=
 .of_wp λprog w A R s h=>by
  obtain⟨hp,g,dd,tk,os⟩:=s;obtain⟨hl1,hl2,h⟩:=h
  have hsub:=sub_zip
  have hL1:c.src (Shared.heap ⟨hp,g,dd,tk,os⟩) xs:=hl1
  have hL2:d.src (Shared.heap ⟨hp.push (c.itObj t1),g,dd,tk,os⟩) ys:=Cp.src_keep hl2 λb o e=>Heap.get?_push_of_some _ e
  wp_walk using Cp.iter (t:=t1) hL1,Cp.iter (t:=t2) hL2
  exact⟨_,rfl,h⟩
theorem call_zipC{t1 t2:Tok}{Q:Value->Shared->Prop}(sc:c.src s.heap xs)(sd:d.src s.heap ys)
  (h:∀h',IsZip h' (s.heap.objs.size+4) (s.heap.objs.size+2) (s.heap.objs.size+3) .none->IsPair h' (s.heap.objs.size+2) (.ref s.heap.objs.size) (.ref (s.heap.objs.size+1)) →
   IsPair h' (s.heap.objs.size+3) .none .none->c.itr h' s.heap.objs.size 0->d.itr h' (s.heap.objs.size+1) 0->(∀b o,s.heap.get? b=some o->h'.get? b=some o)->Q (.ref (s.heap.objs.size+4)) { s with heap:=h' }) :
  wpAny (model prog w) A (call (.type "zip") [c.value t1,d.value t2]) Q E s:=by
 refine callType_new F.called_zip (by decide) (F.typeCall_zip_2 _ _) (F.newCall_zip_2 _ _) (λobj=>F.args_object_init_3 obj _ _) F.entry_zip_new
  (meets_zip c d t1 t2 xs ys) ⟨sc,sd,?_⟩
 have z1:(zH1 s.heap (c.itObj t1)).objs.size=s.heap.objs.size+1:=Heap.size_push ..
 have z2:(zH2 s.heap (c.itObj t1) (d.itObj t2)).objs.size=s.heap.objs.size+2:=by rw[Heap.size_push,z1]
 have z3:(zH3 s.heap (c.itObj t1) (d.itObj t2)).objs.size=s.heap.objs.size+3:=by rw[Heap.size_push,z2]
 have z4:(zH4 s.heap (c.itObj t1) (d.itObj t2)).objs.size=s.heap.objs.size+4:=by rw[Heap.size_push,z3]
 have it1:(c.itObj t1).isFreed=false:=by cases c<;>rfl
 have it2:(d.itObj t2).isFreed=false:=by cases d<;>rfl
 have g5:(zH5 s.heap (c.itObj t1) (d.itObj t2)).get? (zH4 s.heap (c.itObj t1) (d.itObj t2)).objs.size=some _:=Heap.get?_push_size _ rfl
 have g4:(zH5 s.heap (c.itObj t1) (d.itObj t2)).get? (zH3 s.heap (c.itObj t1) (d.itObj t2)).objs.size=some _:=Heap.get?_push_of_some _ (Heap.get?_push_size _ rfl)
 have g3:(zH5 s.heap (c.itObj t1) (d.itObj t2)).get? (zH2 s.heap (c.itObj t1) (d.itObj t2)).objs.size=some _:=Heap.get?_push_of_some _ (Heap.get?_push_of_some _ (Heap.get?_push_size _ rfl))
 have g2:(zH5 s.heap (c.itObj t1) (d.itObj t2)).get? (zH1 s.heap (c.itObj t1)).objs.size=some _:=Heap.get?_push_of_some _ (Heap.get?_push_of_some _ (Heap.get?_push_of_some _ (Heap.get?_push_size _ it2)))
 have g1:(zH5 s.heap (c.itObj t1) (d.itObj t2)).get? s.heap.objs.size=some _:=Heap.get?_push_of_some _ (Heap.get?_push_of_some _ (Heap.get?_push_of_some _ (Heap.get?_push_of_some _ (Heap.get?_push_size _ it1))))
 show _/\_
 rw[z2,z3,z4]at g5
 rw[z1,z2]at g3
 rw[z3]at g4
 rw[z1]at g2
 rw[z4]
 exact⟨⟨_,g5,rfl⟩,h _ g5 g3 g4 (Cp.itr_new g1) (Cp.itr_new g2) λb o x =>
  Heap.get?_push_of_some _ (Heap.get?_push_of_some _ (Heap.get?_push_of_some _ (Heap.get?_push_of_some _ (Heap.get?_push_of_some _ x))))⟩
end
section
variable{X:Cx}{pins:List (Addr×Obj)}{σ:St}{H:Hp}{s:Shared}
theorem Inv.moved{h':Heap}{t':Nat}{ch:List Addr}(I:Inv X pins σ H s)(k:∀b o,b∉ch->s.heap.get? b=some o->h'.get? b=some o)(hf:∀b∈ch,FpOk X pins H b)(ht:s.toks<=t':=by first|exact Nat.le_refl _|exact Nat.le_succ _|assumption|omega):Inv X pins σ H { s with heap:=h',toks:=t' }:=by
 have nch:∀b u,H b=some u->b∉ch:=λb u e z=>by rw[(hf b z).1]at e;cases e
 refine I.step (g':=s.gens) (d':=s.drawn) (ch:=ch) (λb hb=>?_) (λb o _ _ hc e _=>k b o hc e) (λb o _ _ hc e _=>⟨o.slots,k b o hc e⟩) (λ_ _ _ _ n=>n)
  (λb o hc e=>⟨o,k b o hc e⟩) (λ_ _ e=>e) (λ_ _ _ e=>e) (λb ps e=>⟨#[],by rw[e];simp⟩) (λm hm=>?_) (λb u e=>?_) I.bare (Nat.le_trans I.up ht)
 ·obtain⟨_,h1,_,h3,h4,h5⟩:=hf b hb
  exact⟨h3,h1,h4,h5⟩
 ·obtain⟨o,es,ep,ho,r⟩:=hm
  exact⟨o,es,ep,k _ o (λz=>(hf _ z).2.1 rfl) ho,r⟩
 ·refine(I.hok b u e).stay (λc v hc q=>k c v ?_ q) (λ_ q=>q) λ_ _ q=>q
  rcases hc with z|z
  ·rw[z];exact nch b u e
  ·exact nch c _ z
theorem Inv.track{a:Addr}{o:HO}(I:Inv X pins σ H s)(hf:FpOk X pins H a)(new:ObjOk X.prog X.w (upd H a o) s.heap a o):Inv X pins σ (upd H a o) s:=by
 have hn:=hf.1
 have e:s={ s with heap:=s.heap,gens:=s.gens,drawn:=s.drawn,toks:=s.toks }:=rfl
 rw[e]
 refine I.step (ch:=[a]) (λb hb=>?_) (λ_ _ _ _ _ e _=>e) (λ_ o _ _ _ e _=>⟨o.slots,e⟩) (λb _ hc _ n=>?_)
  (λ_ o _ e=>⟨o,e⟩) (λb _ e=>?_) (λb _ _ e=>?_) (λb ps e=>⟨#[],?_⟩) (λ_ hm=>hm) (λb u q=>?_) I.bare I.up
 ·have eb:b=a:=by simpa using hb
  subst eb
  obtain⟨_,h1,_,h3,h4,h5⟩:=hf
  exact⟨h3,h1,h4,h5⟩
 ·rw[upd_ne (λz=>hc (by simp[z]))];exact n
 ·rw[upd_ne (q0x e hn)];exact e
 ·rw[upd_ne (q0x e hn)];exact e
 ·rw[upd_ne (q0x e hn),e];simp
 ·by_cases hb:b=a
  ·subst hb;rw[upd_same]at q;cases q;exact new
  ·rw[upd_ne hb]at q
   exact(I.hok b u q).stay (λc v _ r=>r) (λc r=>by rw[upd_ne (q0x r hn)];exact r) λc xs r=>by rw[upd_ne (q0x r hn)];exact r
def Itz(K:PySem.W.Frag)(c d:Cp):It :=
 ⟨λi H=>∃xs ys x y,c.at K H xs/\d.at K H ys/\xs[i]? =some x/\ys[i]? =some y,
  λi H v H'=>∃p x y,v= .ref p/\H p=none/\H'=upd H p (.tup [x,y])/\∀xs ys,c.at K H xs->d.at K H ys->xs[i]? =some x/\ys[i]? =some y,
  λi H=>∃xs ys,c.at K H xs/\d.at K H ys/\(xs.length<=i\/ys.length<=i)⟩
theorem turn_zip{P:Program}{w:World}{K:PySem.W.Frag}{elts:List Expr}{k:Nat}{pos:Pos}{c d:Cp}{z TI TO i1 i2:Addr}(D:ZipOff z TI TO i1 i2):
  Turn P w K (.Tuple elts k pos) (Itz K c d) [z,TI,TO,i1,i2] z (λi h=>ZipSt h z TI TO i1 i2 c d .none i) where
 mem:=by simp
 obj:=λi h Z b hb=>by
  obtain⟨hz,hTI,⟨a,b',hTO⟩,h1,h2,_,_⟩:=Z
  obtain⟨oi1,T1,v1,hi1,_,d1,_⟩:=Cp.itr_obj h1
  obtain⟨oi2,T2,v2,hi2,_,d2,_⟩:=Cp.itr_obj h2
  simp only[List.mem_cons,List.not_mem_nil,or_false]at hb
  rcases hb with rfl|rfl|rfl|rfl|rfl
  ·exact⟨_,hz,λv q=>by cases q⟩
  ·exact⟨_,hTI,λv q=>by cases q⟩
  ·exact⟨_,hTO,λv q=>by cases q⟩
  ·exact⟨_,hi1,λv q=>by rw[d1]at q;cases q⟩
  ·exact⟨_,hi2,λv q=>by rw[d2]at q;cases q⟩
 keep:=λi h h' Z kp=>by
  obtain⟨hz,hTI,⟨a,b',hTO⟩,h1,h2,o1,o2⟩:=Z
  exact⟨kp z (by simp) _ hz,kp TI (by simp) _ hTI,⟨a,b',kp TO (by simp) _ hTO⟩,Cp.itr_at h1 λo e=>kp i1 (by simp) o e,Cp.itr_at h2 λo e=>kp i2 (by simp) o e,o1,o2⟩
 item:=by
  intro X hP hw hK hc i pins s σ H E I hf Z hg
  subst hP hw hK
  obtain⟨xs,ys,x,y,hx,hy,ex,ey⟩:=hg
  have sc:=Cp.src_of I hx
  have sd:=Cp.src_of I hy
  refine TK.wpAny_up (Nat.le_refl s.toks) (zip_item D Z sc sd ex ey λu v h' tk ru rv Z' hp kk hup=>⟨_,rfl,?_⟩)
  refine wpAny_letOwnedTupleGo_zip Z'.zz λh'' hz'' sb=>?_
  have hnz:s.heap.objs.size≠z:=Nat.ne_of_gt (Heap.lt_size Z.zz)
  have k2:∀b o,b∉[z,TI,TO,i1,i2]->s.heap.get? b=some o->h''.get? b=some o:=λb o hb e=>by
   simp only[List.mem_cons,List.not_mem_nil,or_false,not_or]at hb
   exact sb.extBut _ _ hb.1 (kk b o hb.1 hb.2.2.1 hb.2.2.2.1 hb.2.2.2.2 e)
  have I1:Inv X pins σ H { s with heap:=h'',toks:=tk }:=I.moved k2 hf
  have hn:H s.heap.objs.size=none:=I.fresh
  have fok:FpOk X pins H s.heap.objs.size:=I.fpOk (Nat.le_refl _) hn
  have hp2:IsPair h'' s.heap.objs.size u v:=sb.extBut _ _ hnz hp
  have I2:Inv X pins σ (upd H s.heap.objs.size (.tup [x,y])) { s with heap:=h'',toks:=tk } :=
   I1.track fok ⟨by show 2<=sizeLine;decide,[u,v],.cons ru (.cons rv .nil),⟨_,hp2,rfl,_,rfl⟩⟩
  refine⟨.ref s.heap.objs.size,_,I2,rfl,⟨_,x,y,rfl,hn,rfl,λxs' ys' hx' hy'=>?_⟩,?_,λb hb=>?_⟩
  ·rw[Cp.at_inj I hx' hx,Cp.at_inj I hy' hy];exact⟨ex,ey⟩
  ·obtain⟨_,hTI,⟨a,b',hTO⟩,h1,h2,o1,o2⟩:=Z'
   exact⟨hz'',sb.extBut _ _ D.TIz hTI,⟨a,b',sb.extBut _ _ D.TOz hTO⟩,Cp.itr_at h1 λo e=>sb.extBut _ _ D.i1z e,Cp.itr_at h2 λo e=>sb.extBut _ _ D.i2z e,o1,o2⟩
  ·have lt:b<s.heap.objs.size:=by
    obtain⟨hz,hTI,⟨a,b',hTO⟩,h1,h2,_,_⟩:=Z
    obtain⟨oi1,T1,v1,hi1,_,d1,_⟩:=Cp.itr_obj h1
    obtain⟨oi2,T2,v2,hi2,_,d2,_⟩:=Cp.itr_obj h2
    simp only[List.mem_cons,List.not_mem_nil,or_false]at hb
    rcases hb with rfl|rfl|rfl|rfl|rfl
    ·exact Heap.lt_size hz
    ·exact Heap.lt_size hTI
    ·exact Heap.lt_size hTO
    ·exact Heap.lt_size hi1
    ·exact Heap.lt_size hi2
   rw[upd_ne (Nat.ne_of_lt lt)]
   exact(hf b hb).1
 done:=by
  intro X hP hw hK hc i pins s σ H E I hf Z hg
  subst hP hw hK
  obtain⟨xs,ys,hx,hy,he⟩:=hg
  refine TK.wpAny_up (Nat.le_refl s.toks) (zip_fin (I.ok.hd hc) D Z (Cp.src_of I hx) (Cp.src_of I hy) (he.imp (λq=>List.getElem?_eq_none q) λq=>List.getElem?_eq_none q) λh' tk kk hup=>⟨rfl,?_⟩)
  exact I.moved (λb o hb e=>by
   simp only[List.mem_cons,List.not_mem_nil,or_false,not_or]at hb
   exact kk b o hb.1 hb.2.2.1 hb.2.2.2.1 hb.2.2.2.2 e) hf
 self:=λ_ _ _ _ _ Z h=>wpAny_pyIter_zip Z.zz h
theorem zipOff_new(n:Nat):ZipOff (n+4) (n+2) (n+3) n (n+1):=by
 have ne:∀{a b:Nat},a<b->a≠b:=λh=>Nat.ne_of_lt h
 exact⟨ne (by omega),ne (by omega),ne (by omega),ne (by omega),ne (by omega),(ne (by omega)).symm,(ne (by omega)).symm,(ne (by omega)).symm,(ne (by omega)).symm,ne (by omega)⟩
def iZip(K:PySem.W.Frag)(ta:TA):TI:=λσ H R=>ta σ H λvs H1=>∃c d xs ys,vs=[c.val,d.val]/\c.at K H1 xs/\d.at K H1 ys/\R (Itz K c d) H1
theorem pi_zip {a b:Expr} {ta:TA} {p pos:Pos} {elts:List Expr} {k:Nat} {tpos:Pos} (hc:X.calm=true) (hg:Gl X "zip") (hm:X.mg "zip" =none) (ha:PA X [a,b] ta)
  (hs:starEach [a,b] X.env=[(false,eval a X.env),(false,eval b X.env)]:=by rfl) (hs2:starEach [b] X.env=[(false,eval b X.env)]:=by rfl) :
  PI X (.Tuple elts k tpos) (.Call (.Name "zip" p) [a,b] [] pos) (iZip X.K ta):=by
 intro pins s σ H R I h
 refine Call_ (q9w I hg hm boot_zip (PyProof.Rows.callWith_type1 (thn (ha pos pins s σ H _ I h) λus s1 ⟨vs,H1,I1,r1,q1⟩=>?_) (by rw[hs,hs2]) (by rw[hs2];rfl)))
 obtain⟨c,d,xs,ys,e,hx,hy,q⟩:=q1
 subst e
 obtain⟨u,v,rfl,ru,rv⟩:=vals2 r1
 obtain⟨t1,rfl⟩:=Cp.value_of ru
 obtain⟨t2,rfl⟩:=Cp.value_of rv
 have sc:=Cp.src_of I1 hx
 have sd:=Cp.src_of I1 hy
 refine call_zipC sc sd λh' hz hTI hTO h1 h2 kk=>wpAny_pyIter_zip hz ?_
 have D:ZipOff (s1.heap.objs.size+4) (s1.heap.objs.size+2) (s1.heap.objs.size+3) s1.heap.objs.size (s1.heap.objs.size+1) :=
  zipOff_new _
 refine⟨_,[s1.heap.objs.size+4,s1.heap.objs.size+2,s1.heap.objs.size+3,s1.heap.objs.size,s1.heap.objs.size+1],_,_,H1,rfl,I1.kept (t':=s1.toks) kk,turn_zip D,
  ⟨hz,hTI,⟨_,_,hTO⟩,h1,h2,Cp.off_new sc (Nat.le_add_right _ 3),Cp.off_new sd (Nat.le_add_right _ 3)⟩,λb hb=>?_,q⟩
 have le:s1.heap.objs.size<=b:=by
  simp only[List.mem_cons,List.not_mem_nil,or_false]at hb
  rcases hb with rfl|rfl|rfl|rfl|rfl
  ·exact Nat.le_add_right _ _
  ·exact Nat.le_add_right _ _
  ·exact Nat.le_add_right _ _
  ·exact Nat.le_refl _
  ·exact Nat.le_add_right _ _
 exact I1.fpOk le (I1.hok.fresh le)
end
end L2
namespace L2
open PySem PySem.Spec PyProof.Rows
def Its(x:Str):It:=⟨λi _=>i<x.cps.size,λi H v H'=>H'=H/\∃k,x.cps[i]? =some k/\v= .str ⟨#[k]⟩,λi _=>x.cps.size<=i⟩
section
variable{prog:Program}{w:World}{A:Around}{E:Value->Shared->Prop}{s:Shared}
theorem q7s{it:Addr}{x:Str}{t:Tok}{i k:Nat}{Q:Option Value->Shared->Prop}(hit:s.heap.IsStrIter it (strIterType x) x t i)(hx:x.cps[i]? =some k)
  (hQ:∀h',h'.IsStrIter it (strIterType x) x t (i+1)->Heap.SameBut it s.heap h'->Q (some (.str ⟨#[k]⟩ s.toks)) { s with heap:=h',toks:=s.toks+1 }):wpAny (model prog w) A (pyNext (.ref it)) Q E s:=by
 unfold strIterType at hit hQ
 by_cases ha:(x.cps.all (·<128))=true
 ·rw[if_pos ha]at hit hQ
  exact wpAny_pyNext_ascii_item hit hx hQ
 ·rw[if_neg ha]at hit hQ
  exact wpAny_pyNext_wide_item hit hx hQ
theorem q8o{it:Addr}{x:Str}{t:Tok}{i:Nat}{Q:Option Value->Shared->Prop}(hh:A.handled=none)(hit:s.heap.IsStrIter it (strIterType x) x t i)(hx:x.cps[i]? =none)
  (hQ:∀h',Heap.ExtBut it s.heap h'->Q none { s with heap:=h' }):wpAny (model prog w) A (pyNext (.ref it)) Q E s:=by
 unfold strIterType at hit
 by_cases ha:(x.cps.all (·<128))=true
 ·rw[if_pos ha]at hit
  exact wpAny_pyNext_ascii_end hh hit hx hQ
 ·rw[if_neg ha]at hit
  exact wpAny_pyNext_wide_end hh hit hx hQ
theorem q8p{it:Addr}{x:Str}{t:Tok}{i:Nat}{Q:Value->Shared->Prop}(hit:s.heap.IsStrIter it (strIterType x) x t i)(h:Q (.ref it) s):wpAny (model prog w) A (pyIter (.ref it)) Q E s:=by
 unfold strIterType at hit
 by_cases ha:(x.cps.all (·<128))=true
 ·rw[if_pos ha]at hit
  exact wpAny_pyIter_striter_ascii hit h
 ·rw[if_neg ha]at hit
  exact wpAny_pyIter_striter_wide hit h
end
theorem z1e(x:Str):["enumerate","zip","dict_itemiterator","dict_reverseitemiterator","odict_iterator","itertools.zip_longest","itertools.pairwise"].contains (strIterType x)=false:=by
 unfold strIterType
 split<;>decide
theorem turn_txt{P:Program}{w:World}{K:PySem.W.Frag}{tg:Expr}(x:Str)(t:Tok)(it:Addr):Turn P w K tg (Its x) [it] it (λi h=>h.IsStrIter it (strIterType x) x t i) where
 mem:=by simp
 obj:=λi h st b hb=>by
  have e:b=it:=by simpa using hb
  subst e
  obtain⟨o,e,c,d⟩:=st
  exact⟨o,e,λv z=>by rw[d]at z;cases z⟩
 keep:=λi h h' st k=>by
  obtain⟨o,e,r⟩:=st
  exact⟨o,k it (by simp) o e,r⟩
 item:=by
  intro X hP hw hK hc i pins s σ H E I hf st hg
  subst hP hw hK
  have hi:i<x.cps.size:=hg
  obtain⟨f0,f1,f2,f3,f4,f5⟩:=hf it (by simp)
  refine q7s st (k:=x.cps[i]) (by simp[hi]) λh' st' sb=>?_
  have I1:Inv X pins σ H { s with heap:=h',toks:=s.toks+1 }:=I.turned (λb o hb e=>(sb.2 b hb).trans e) f0 f1 f3 f4 f5
  obtain⟨o,e,c,d⟩:=id st'
  exact⟨_,rfl,go_of (s:={ s with heap:=h',toks:=s.toks+1 }) e c d (z1e x) ⟨.str ⟨#[x.cps[i]]⟩,H,I1,⟨_,rfl⟩,⟨rfl,_,by simp[hi],rfl⟩,st',λb hb=>(hf b hb).1⟩⟩
 done:=by
  intro X hP hw hK hc i pins s σ H E I hf st hg
  subst hP hw hK
  have hi:x.cps.size<=i:=hg
  obtain⟨f0,f1,f2,f3,f4,f5⟩:=hf it (by simp)
  exact q8o (I.ok.hd hc) st (by simp[hi]) λh' eb=>⟨rfl,I.turned (t':=s.toks) (λb o hb e=>eb b o hb e) f0 f1 f3 f4 f5⟩
 self:=λ_ _ _ _ _ st h=>q8p st h
section
variable{X:Cx}{tg:Expr}
def iTxt(tl:TE):TI:=λσ H R=>tl σ H λv H1=>∃x,v= .str x/\R (Its x) H1
theorem z2o{l:Expr}{tl:TE}(hl:PE X l tl):PI X tg l (iTxt tl):=by
 intro pins s σ H R I h
 refine thn (hl pins s σ H _ I h) λv s1 ⟨y,H1,I1,r1,q1⟩=>?_
 obtain⟨x,e,q⟩:=q1
 subst e
 obtain⟨t,rfl⟩:=r1
 refine wpAny_pyIter_strU ?_
 refine⟨s1.heap.objs.size,[s1.heap.objs.size],_,_,H1,rfl,I1.kept (t':=s1.toks) λb o e=>Heap.get?_push_of_some _ e,turn_txt x t _,⟨_,Heap.get?_push_size _ rfl,rfl,rfl⟩,λb hb=>?_,q⟩
 have e:b=s1.heap.objs.size:=by simpa using hb
 subst e
 exact I1.fpOk (Nat.le_refl _) (I1.hok.fresh (Nat.le_refl _))
theorem for_txt{x:Str}{g:TG}{tb:TS}{D:Ends}{σ:St}{H:Hp}(Pv:Nat->St->Hp->Prop)(h0:Pv 0 σ H)
  (hs:∀i k σ H,x.cps[i]? =some k->Pv i σ H->g (.str ⟨#[k]⟩) σ H λσ2 H2=>tb { D with nx:=Pv (i+1),ct:=Pv (i+1),bk:=D.nx } σ2 H2) (hd:∀ σ H,Pv x.cps.size σ H->D.nx σ H) :
  ∃W:Nat->Nat->St->Hp->Prop,(∃m,W 0 m σ H)/\∀i m σ H,W i m σ H →
   ((Its x).stop i H/\D.nx σ H)\/((Its x).go i H/\∃N:St->Hp->Prop,(∀ σ' H',N σ' H'->∃m',m'<m/\W (i+1) m' σ' H')/\∀y H',(Its x).yld i H y H'->g y σ H' λσ2 H2=>tb { D with nx:=N,ct:=N,bk:=D.nx } σ2 H2):=by
 refine⟨λi m σ H=>m=x.cps.size-i/\i<=x.cps.size/\Pv i σ H,⟨x.cps.size,by simp,Nat.zero_le _,h0⟩,?_⟩
 rintro i m σ H ⟨rfl,hi,p⟩
 by_cases hlt:i<x.cps.size
 ·refine .inr ⟨hlt,Pv (i+1),λσ' H' p'=>⟨x.cps.size-(i+1),by omega,rfl,hlt,p'⟩,λy H' q=>?_⟩
  obtain⟨e,k,ek,rfl⟩:=q
  subst e
  exact hs i k σ _ ek p
 ·have e:i=x.cps.size:=by omega
  subst e
  exact .inl ⟨Nat.le_refl _,hd σ H p⟩
theorem for_zip{K:PySem.W.Frag}{c d:Cp}{xs ys:List V}{g:TG}{tb:TS}{D:Ends}{σ:St}{H:Hp}(Pv:Nat->St->Hp->Prop)(h0:Pv 0 σ H)(hl:∀i σ H,i<=min xs.length ys.length->Pv i σ H->c.at K H xs/\d.at K H ys)
  (hs:∀i x y p σ H,xs[i]? =some x->ys[i]? =some y->H p=none->Pv i σ H->g (.ref p) σ (upd H p (.tup [x,y])) λσ2 H2=>tb { D with nx:=Pv (i+1),ct:=Pv (i+1),bk:=D.nx } σ2 H2)
  (hd:∀ σ H,Pv (min xs.length ys.length) σ H->D.nx σ H) :
  ∃W:Nat->Nat->St->Hp->Prop,(∃m,W 0 m σ H)/\∀i m σ H,W i m σ H →
   ((Itz K c d).stop i H/\D.nx σ H)\/((Itz K c d).go i H/\∃N:St->Hp->Prop,(∀ σ' H',N σ' H'->∃m',m'<m/\W (i+1) m' σ' H')/\∀y H',(Itz K c d).yld i H y H'->g y σ H' λσ2 H2=>tb { D with nx:=N,ct:=N,bk:=D.nx } σ2 H2):=by
 refine⟨λi m σ H=>m=min xs.length ys.length-i/\i<=min xs.length ys.length/\Pv i σ H,⟨min xs.length ys.length,by simp,Nat.zero_le _,h0⟩,?_⟩
 rintro i m σ H ⟨rfl,hi,p⟩
 obtain⟨zx,zy⟩:=hl i σ H hi p
 by_cases hlt:i<min xs.length ys.length
 ·have h1:i<xs.length:=by omega
  have h2:i<ys.length:=by omega
  refine .inr ⟨⟨xs,ys,xs[i],ys[i],zx,zy,by simp[h1],by simp[h2]⟩,Pv (i+1),λσ' H' p'=>⟨min xs.length ys.length-(i+1),by omega,rfl,hlt,p'⟩,λv H' q=>?_⟩
  obtain⟨a,x,y,rfl,ha,rfl,e⟩:=q
  obtain⟨e1,e2⟩:=e xs ys zx zy
  exact hs i x y a σ H e1 e2 ha p
 ·have e:i=min xs.length ys.length:=by omega
  subst e
  refine .inl ⟨⟨xs,ys,zx,zy,?_⟩,hd σ H p⟩
  rcases Nat.le_total xs.length ys.length with q|q
  ·exact .inl (by rw[Nat.min_eq_left q];exact Nat.le_refl _)
  ·exact .inr (by rw[Nat.min_eq_right q];exact Nat.le_refl _)
end
end L2
namespace L2
open PySem PySem.Spec PyProof.Rows
def Cp.adr:Cp->List Addr
 | .lst a=>[a]
 | .tup a=>[a]
 | .txt _=>[]
theorem Cp.off_adr{c:Cp}{b:Addr}(h:c.off b):b∉c.adr:=by
 cases c with
 |lst a =>
  intro z
  have q:b=a:=by simpa[Cp.adr]using z
  exact h q.symm
 |tup a =>
  intro z
  have q:b=a:=by simpa[Cp.adr]using z
  exact h q.symm
 |txt x=>intro z;cases z
theorem Cp.src_adr{c:Cp}{xs:List V}{h h':Heap}(hs:c.src h xs)(k:∀b∈c.adr,∀o,h.get? b=some o->h'.get? b=some o):c.src h' xs:=by
 cases c with
 |lst a=>obtain⟨its,r,o,ho,q⟩:=hs;exact⟨its,r,o,k a (by simp[Cp.adr]) _ ho,q⟩
 |tup a=>obtain⟨its,r,o,ho,q⟩:=hs;exact⟨its,r,o,k a (by simp[Cp.adr]) _ ho,q⟩
 |txt x=>exact hs
theorem Cp.draws{prog:Program}{w:World}{A:Around}{c:Cp}{xs:List V}(hh:A.handled=none)(it:Addr):
  Draws prog w A it (it::c.adr) xs.length (λi v=>∃x,xs[i]? =some x/\RelV x v) (λi h=>c.itr h it i/\c.src h xs) where
 live:=λi h st=>by
  obtain⟨o,_,_,ho,_⟩:=Cp.itr_obj st.1
  exact⟨o,ho⟩
 frame:=λi h h' st k=>⟨Cp.itr_at st.1 λo e=>k it (by simp) o e,Cp.src_adr st.2 λb hb o e=>k b (List.mem_cons_of_mem _ hb) o e⟩
 item:=λi s Q E hi st hQ=>by
  obtain⟨o,T,_,ho,hc,_,n1,n2⟩:=Cp.itr_obj st.1
  have off:c.off it:=Cp.off_of st.2 ho hc n1 n2
  refine Cp.item st.1 st.2 (x:=xs[i]) (by simp[hi]) λu h' tk ru q sb=>?_
  exact hQ u h' tk ⟨_,by simp[hi],ru⟩ ⟨q,Cp.src_ext st.2 sb.extBut off⟩ sb
 done:=λs Q E st hE=>Cp.fin hh st.1 st.2 (by simp) hE
def Ite(K:PySem.W.Frag)(c:Cp):It :=
 ⟨λi H=>∃xs x,c.at K H xs/\xs[i]? =some x,
  λi H v H'=>∃p x,v= .ref p/\H p=none/\H'=upd H p (.tup [.int (i:Int),x])/\∀xs,c.at K H xs->xs[i]? =some x,
  λi H=>∃xs,c.at K H xs/\xs.length<=i⟩
theorem turn_enum{P:Program}{w:World}{K:PySem.W.Frag}{elts:List Expr}{k:Nat}{pos:Pos}{c:Cp}{e it:Addr}(hei:e≠it):
  Turn P w K (.Tuple elts k pos) (Ite K c) [e,it] e (λi h=>(∃old,IsEnum h e it i old)/\c.itr h it i) where
 mem:=by simp
 obj:=λi h Z b hb=>by
  obtain⟨⟨old,he⟩,hi⟩:=Z
  obtain⟨o,_,vs,ho,_,d,_⟩:=Cp.itr_obj hi
  simp only[List.mem_cons,List.not_mem_nil,or_false]at hb
  rcases hb with rfl|rfl
  ·exact⟨_,he,λv q=>by cases q⟩
  ·exact⟨_,ho,λv q=>by rw[d]at q;cases q⟩
 keep:=λi h h' Z kp=>by
  obtain⟨⟨old,he⟩,hi⟩:=Z
  exact⟨⟨old,kp e (by simp) _ he⟩,Cp.itr_at hi λo q=>kp it (by simp) o q⟩
 item:=by
  intro X hP hw hK hc i pins s σ H E I hf Z hg
  subst hP hw hK
  obtain⟨xs,x,hx,ex⟩:=hg
  obtain⟨⟨old,he⟩,hi⟩:=id Z
  have sc:=Cp.src_of I hx
  have offe:c.off e:=Cp.off_of sc he rfl (by decide) (by decide)
  have hlt:i<xs.length:=(List.getElem?_eq_some_iff.mp ex).1
  have hh:X.A.in1.handled=none:=I.ok.hd hc
  refine TK.wpAny_up (Nat.le_refl s.toks) (wpAny_pyNext_enum_itemD (Cp.draws (c:=c) (xs:=xs) hh it) he ⟨hi,sc⟩ hlt hei (λz=>?_) λu h' tk hP ho st' hT hsz kk hup=>⟨_,rfl,?_⟩)
  ·rcases List.mem_cons.mp z with q|q
   ·exact hei q
   ·exact Cp.off_adr offe q
  ·obtain⟨x',ex',ru⟩:=hP
   rw[ex]at ex'
   cases ex'
   refine wpAny_letOwnedTupleGo_enum ho λh'' he'' sb=>?_
   have hne:s.heap.objs.size≠e:=Nat.ne_of_gt (Heap.lt_size he)
   have k2:∀b o,b∉[e,it]->s.heap.get? b=some o->h''.get? b=some o:=λb o hb q=>by
    simp only[List.mem_cons,List.not_mem_nil,or_false,not_or]at hb
    exact sb.extBut _ _ hb.1 (kk b o hb.1 hb.2 q)
   have I1:Inv X pins σ H { s with heap:=h'',toks:=tk+1 }:=I.moved k2 hf (by have z:s.toks<=tk+1:=hup;exact z)
   have hn:H s.heap.objs.size=none:=I.fresh
   have fok:FpOk X pins H s.heap.objs.size:=I.fpOk (Nat.le_refl _) hn
   have hp2:h''.get? s.heap.objs.size=some { cls:=.type "tuple",data:=.seq #[.int i tk,u] }:=sb.extBut _ _ hne hT
   have I2:Inv X pins σ (upd H s.heap.objs.size (.tup [.int (i:Int),x])) { s with heap:=h'',toks:=tk+1 } :=
    I1.track fok ⟨by show 2<=sizeLine;decide,[.int i tk,u],.cons ⟨_,rfl⟩ (.cons ru .nil),⟨_,hp2,rfl,_,rfl⟩⟩
   refine⟨.ref s.heap.objs.size,_,I2,rfl,⟨_,x,rfl,hn,rfl,λxs' hx'=>?_⟩,⟨⟨_,he''⟩,Cp.itr_at st'.1 λo q=>sb.extBut _ _ (Ne.symm hei) q⟩,λb hb=>?_⟩
   ·rw[Cp.at_inj I hx' hx];exact ex
   ·obtain⟨o,_,vs,hoi,_⟩:=Cp.itr_obj hi
    have lt:b<s.heap.objs.size:=by
     have hb':=hb
     simp only[List.mem_cons,List.not_mem_nil,or_false]at hb'
     rcases hb' with rfl|rfl
     ·exact Heap.lt_size he
     ·exact Heap.lt_size hoi
    rw[upd_ne (Nat.ne_of_lt lt)]
    exact(hf b hb).1
 done:=by
  intro X hP hw hK hc i pins s σ H E I hf Z hg
  subst hP hw hK
  obtain⟨xs,hx,hle⟩:=hg
  obtain⟨⟨old,he⟩,hi⟩:=Z
  have hh:X.A.in1.handled=none:=I.ok.hd hc
  have hT:s.TypeIs (.ref e) "enumerate" :=⟨_,he,rfl⟩
  unfold pyNext
  refine wpAny_bind (wpAny_attempt (wpAny_callSpecial?_slot (name:=Str.ofString "__next__") hT F.slot_enumerate_next
   (wpAny_call_entry F.slot_enumerate_next hT F.entry_enumerate_next ?_ (F.args_enumerate_next_1 _))))
  show wpAny _ _ (field (.ref e) 2 >>= _) _ _ _
  refine wpAny_bind (wpAny_field he rfl (x:=.ref it) rfl ?_)
  refine wpAny_bind (Cp.fin hh hi (Cp.src_of I hx) (List.getElem?_eq_none hle) λh' y eb hy=>?_)
  obtain⟨o,ho,hcl⟩:=hy
  refine wpAny_bind (wpAny_isInstance (T:= "StopIteration") (b:=true) ⟨o,ho,hcl⟩ isSubtype_stop ?_)
  refine wpAny_pure ⟨rfl,I.moved (t':=s.toks) (ch:=[e,it]) (λb o hb q=>eb b o ?_ q) hf⟩
  simp only[List.mem_cons,List.not_mem_nil,or_false,not_or]at hb
  exact hb.2
 self:=λ_ _ _ _ _ Z h=>by
  obtain⟨⟨old,he⟩,_⟩:=Z
  exact wpAny_pyIter_enum he h
section
variable{prog:Program}{w:World}{A:Around}{E:Value->Shared->Prop}{s:Shared}
set_option maxHeartbeats 1000000 in
theorem z3w(l:Addr)(items:Array Value)(n:Nat)(dct:Option Addr)(sl:Array (Option Value)):
  Meets (Builtin.«enumerate.__new__» ⟨[.type "enumerate",.ref l],[]⟩) (λ_ R s=>s.heap.get? l=some { cls:=.type "tuple",dict:=dct,data:=.seq items n,slots:=sl } ∧
   R (.ok (.ret (.ref (s.heap.push { cls:=.type "tuple_iterator",data:=.fields #[.ref l,.int 0 0] }).objs.size)))
    { s with heap:=(s.heap.push { cls:=.type "tuple_iterator",data:=.fields #[.ref l,.int 0 0] }).push { cls:=.type "enumerate",data:=.fields #[.none,.bool false,.ref s.heap.objs.size,rawInt 0,.none,.none] } }) :=
 .of_wp λprog w A R s h=>by
  obtain⟨hp,g,d,tk,os⟩:=s;obtain⟨hl,h⟩:=h
  have hsub:=sub_enumerate
  have hL:Heap.IsTuple (Shared.heap ⟨hp,g,d,tk,os⟩) l items:=⟨_,hl,rfl,n,rfl⟩
  wp_walk using AutoSeq1.wpAny_loadPart' hl
  refine wpAny_stack_any λst=>wpAny_pure ?_
  split
  ·rename_i c _ _ _ _ _
   cases (c==Value.type "enumerate")
   ·wp_walk using AutoSeq1.wpAny_loadPart' hl,wpAny_pyIter_tuple hL
    exact⟨_,rfl,h⟩
   ·wp_walk using AutoSeq1.wpAny_loadPart' hl,wpAny_pyIter_tuple hL
    exact⟨_,rfl,h⟩
  ·wp_walk using AutoSeq1.wpAny_loadPart' hl,wpAny_pyIter_tuple hL
   exact⟨_,rfl,h⟩
theorem z6g{l:Addr}{items:Array Value}{Q:Value->Shared->Prop}(hL:s.heap.IsTuple l items)
  (h:∀h',IsEnum h' (s.heap.objs.size+1) s.heap.objs.size 0 .none->h'.IsTupleIter s.heap.objs.size l 0 →
   (∀b o,s.heap.get? b=some o->h'.get? b=some o)->Q (.ref (s.heap.objs.size+1)) { s with heap:=h' }) :
  wpAny (model prog w) A (call (.type "enumerate") [.ref l]) Q E s:=by
 obtain⟨⟨c,dct,dt,sl⟩,hl,hc,n,hd⟩:=hL
 replace hc:c= .type "tuple" :=hc
 replace hd:dt= .seq items n:=hd
 subst hc hd
 refine callType_new F.called_enumerate (by decide) (F.typeCall_enumerate_1 _) (F.newCall_enumerate_1 _) (λobj=>F.args_object_init_2 obj _) F.entry_enumerate_new
  (z3w l items n dct sl) ⟨hl,?_⟩
 have hz:(s.heap.push { cls:=.type "tuple_iterator",data:=.fields #[.ref l,.int 0 0] }).objs.size=s.heap.objs.size+1:=Heap.size_push ..
 show _/\_
 rw[hz]
 have he:IsEnum ((s.heap.push { cls:=.type "tuple_iterator",data:=.fields #[.ref l,.int 0 0] }).push
   { cls:=.type "enumerate",data:=.fields #[.none,.bool false,.ref s.heap.objs.size,rawInt 0,.none,.none] }) (s.heap.objs.size+1) s.heap.objs.size 0 .none:=by
  have:=Heap.get?_push_size (s.heap.push { cls:=.type "tuple_iterator",data:=.fields #[.ref l,.int 0 0] })
   (o:={ cls:=.type "enumerate",data:=.fields #[.none,.bool false,.ref s.heap.objs.size,rawInt 0,.none,.none] }) rfl
  rw[hz]at this;exact this
 exact⟨⟨_,he,rfl⟩,h _ he ⟨_,Heap.get?_push_of_some _ (Heap.get?_push_size _ rfl),rfl,rfl⟩ λb o x=>Heap.get?_push_of_some _ (Heap.get?_push_of_some _ x)⟩
theorem call_enumC{c:Cp}{xs:List V}{t:Tok}{Q:Value->Shared->Prop}(sc:c.src s.heap xs)
  (h:∀h',IsEnum h' (s.heap.objs.size+1) s.heap.objs.size 0 .none->c.itr h' s.heap.objs.size 0->(∀b o,s.heap.get? b=some o->h'.get? b=some o)->Q (.ref (s.heap.objs.size+1)) { s with heap:=h' }) :
  wpAny (model prog w) A (call (.type "enumerate") [c.value t]) Q E s:=by
 cases c with
 |lst a=>obtain⟨its,_,p⟩:=sc;exact call_enumerate_list p λh' a b _ k=>h h' a b k
 |tup a=>obtain⟨its,_,p⟩:=sc;exact z6g p λh' a b k=>h h' a b k
 |txt x=>exact call_enumerate_str λh' a b _ k=>h h' a ⟨t,b⟩ k
end
section
variable{X:Cx}
def iEnum(K:PySem.W.Frag)(ta:TA):TI:=λσ H R=>ta σ H λvs H1=>∃c xs,vs=[c.val]/\c.at K H1 xs/\R (Ite K c) H1
theorem pi_enum {a:Expr} {ta:TA} {p pos:Pos} {elts:List Expr} {k:Nat} {tpos:Pos} (hg:Gl X "enumerate") (hm:X.mg "enumerate" =none) (ha:PA X [a] ta)
  (hs:starEach [a] X.env=[(false,eval a X.env)]:=by rfl):PI X (.Tuple elts k tpos) (.Call (.Name "enumerate" p) [a] [] pos) (iEnum X.K ta):=by
 intro pins s σ H R I h
 refine Call_ (q9w I hg hm boot_enumerate (PyProof.Rows.callWith_type1 (thn (ha pos pins s σ H _ I h) λus s1 ⟨vs,H1,I1,r1,q1⟩=>?_) hs rfl))
 obtain⟨c,xs,e,hx,q⟩:=q1
 subst e
 obtain⟨u,rfl,ru⟩:=z2c r1
 obtain⟨t,rfl⟩:=Cp.value_of ru
 have sc:=Cp.src_of I1 hx
 refine call_enumC sc λh' he hi kk=>wpAny_pyIter_enum he ?_
 have hei:s1.heap.objs.size+1≠s1.heap.objs.size:=Nat.ne_of_gt (Nat.lt_succ_self _)
 refine⟨_,[s1.heap.objs.size+1,s1.heap.objs.size],_,_,H1,rfl,I1.kept (t':=s1.toks) kk,turn_enum hei,⟨⟨_,he⟩,hi⟩,λb hb=>?_,q⟩
 have le:s1.heap.objs.size<=b:=by
  simp only[List.mem_cons,List.not_mem_nil,or_false]at hb
  rcases hb with rfl|rfl
  ·exact Nat.le_add_right _ _
  ·exact Nat.le_refl _
 exact I1.fpOk le (I1.hok.fresh le)
theorem z5z{K:PySem.W.Frag}{c:Cp}{xs:List V}{g:TG}{tb:TS}{D:Ends}{σ:St}{H:Hp}(Pv:Nat->St->Hp->Prop)(h0:Pv 0 σ H)(hl:∀i σ H,i<=xs.length->Pv i σ H->c.at K H xs)
  (hs:∀(i:Nat) x p σ H,xs[i]? =some x->H p=none->Pv i σ H->g (.ref p) σ (upd H p (.tup [.int (i:Int),x])) λσ2 H2=>tb { D with nx:=Pv (i+1),ct:=Pv (i+1),bk:=D.nx } σ2 H2)
  (hd:∀ σ H,Pv xs.length σ H->D.nx σ H) :
  ∃W:Nat->Nat->St->Hp->Prop,(∃m,W 0 m σ H)/\∀i m σ H,W i m σ H →
   ((Ite K c).stop i H/\D.nx σ H)\/((Ite K c).go i H/\∃N:St->Hp->Prop,(∀ σ' H',N σ' H'->∃m',m'<m/\W (i+1) m' σ' H')/\∀y H',(Ite K c).yld i H y H'->g y σ H' λσ2 H2=>tb { D with nx:=N,ct:=N,bk:=D.nx } σ2 H2):=by
 refine⟨λi m σ H=>m=xs.length-i/\i<=xs.length/\Pv i σ H,⟨xs.length,by simp,Nat.zero_le _,h0⟩,?_⟩
 rintro i m σ H ⟨rfl,hi,p⟩
 have zx:=hl i σ H hi p
 by_cases hlt:i<xs.length
 ·refine .inr ⟨⟨xs,xs[i],zx,by simp[hlt]⟩,Pv (i+1),λσ' H' p'=>⟨xs.length-(i+1),by omega,rfl,hlt,p'⟩,λv H' q=>?_⟩
  obtain⟨a,x,rfl,ha,rfl,e⟩:=q
  exact hs i x a σ H (e xs zx) ha p
 ·have e:i=xs.length:=by omega
  subst e
  exact .inl ⟨⟨xs,zx,Nat.le_refl _⟩,hd σ H p⟩
end
end L2
namespace L2
open PySem PySem.Spec PyProof.Rows
set_option maxRecDepth 100000
def met(val:Nat->Str)(i:Nat):List Str:=((List.range i).map val).foldl step_dedup []
theorem z5v(val:Nat->Str):met val 0=[]:=rfl
theorem q9t(val:Nat->Str)(i:Nat):met val (i+1)=step_dedup (met val i) (val i):=by
 unfold met;rw[List.range_succ,List.map_append,List.foldl_append];rfl
theorem q9u(val:Nat->Str):∀i,(met val i).length<=i
 | 0=>by rw[z5v];exact Nat.le_refl _
 |i+1=>by
  rw[q9t]
  have ih:=q9u val i
  unfold step_dedup
  split
  ·omega
  ·rw[List.length_append,List.length_singleton];omega
theorem z0z(σ:List Str)(v k:Str):(step_dedup σ v).any (·==k)=(σ.any (·==k)||decide (k=v)):=by
 unfold step_dedup
 by_cases h:σ.any (·==v)=true
 ·rw[if_pos h]
  by_cases e:k=v
  ·subst e;rw[h];simp
  ·simp[e]
 ·rw[if_neg h,List.any_append]
  by_cases e:k=v
  ·subst e;simp
  ·have hb:(v==k)=false:=by simpa[beq_iff_eq]using(λh':v=k=>e h'.symm)
   simp[hb,e]
theorem q7x(σ:List Str)(v:Str):(step_dedup σ v).length=if σ.any (·==v)then σ.length else σ.length+1:=by
 unfold step_dedup;split<;>simp
section
variable{prog:Program}{w:World}{A:Around}{R:Result->Shared->Prop}{I:Addr}{fp wr:List Addr}{G:Array GenState->Array GenState->Prop}{n:Nat}{P:Nat->Value->Prop}{St:Nat->Shared->Prop}
theorem set_loop_txt(W:WalksS prog w A.in1 I fp wr G n P St)(S:Addr)(hSf:S∉fp)(val:Nat->Str)(hval:∀i v,P i v->∃t,v= .str (val i) t)(hb:n+1<scanBound):
  ∀(k i:Nat) (s:Shared),n-i=k->i<=n->St i s->s.heap.SetOf (strKind prog w) S (λk'=>(met val i).any (·==k')) (met val i).length →
   (∀s',Moved (S::wr) G s s'->s'.heap.SetOf (strKind prog w) S (λk'=>(met val n).any (·==k')) (met val n).length->R (.ok (.ret .none)) s') →
   codeAny (model prog w) A (.builtin "set.update.loop" ⟨[.ref S,.ref I],[]⟩) R s:=by
 have hSw:S∉wr:=λh=>hSf (W.sub _ h)
 have hsub:∀b∈wr,b∈S::wr:=λb hb=>List.mem_cons_of_mem _ hb
 intro k
 induction k with
 |zero =>
  intro i s hk hi hst hS hR
  have hin:i=n:=by omega
  subst hin
  refine codeAny_builtin PyProof.Rows.F.entry_set_update_loop ?_
  rw[Around.under_plainId PyProof.Rows.F.plain_set_update_loop _]
  show wpAny _ A.in1 (pyNext (.ref I) >>= _) _ _ s
  refine wpAny_bind (W.done s _ _ hst λs' hm=>?_)
  show wpAny _ A.in1 (ret Value.none) _ _ s'
  exact wpAny_pure (hR s' (hm.mono hsub) (by
   obtain⟨o,es,ep,t,ho,rest⟩:=hS
   exact⟨o,es,ep,t,hm.heap S _ hSw ho,rest⟩))
 |succ k ih =>
  intro i s hk hi hst hS hR
  have hlt:i<n:=by omega
  refine codeAny_builtin PyProof.Rows.F.entry_set_update_loop ?_
  rw[Around.under_plainId PyProof.Rows.F.plain_set_update_loop _]
  show wpAny _ A.in1 (pyNext (.ref I) >>= _) _ _ s
  refine wpAny_bind (W.item i s _ _ hlt hst λv s' hP hst' hm=>?_)
  obtain⟨t,rfl⟩:=hval i v hP
  have hS':s'.heap.SetOf (strKind prog w) S (λk'=>(met val i).any (·==k')) (met val i).length:=by
   obtain⟨o,es,ep,tb,ho,rest⟩:=hS
   exact⟨o,es,ep,tb,hm.heap S _ hSw ho,rest⟩
  show wpAny _ A.in1 (holding [Value.str (val i) t] (setAdd S (.str (val i) t)) >>= _) _ _ s'
  refine wpAny_bind (wpAny_holding ?_)
  unfold setAdd
  refine wpAny_holding ?_
  refine wpAny_bind ((strKind prog w).pyHash (k:=val i) (strKind_is _ _ _ _) ?_)
  have hroom:(met val i).length+1<scanBound:=by have:=q9u val i;omega
  refine wpAny_setAddHashed_of (knd:=strKind prog w) (s:={ s' with toks:=s'.toks+1 }) (strKind_is _ _ _ _) rfl hS' hroom λh' hsb hS2=>?_
  have hSi:h'.SetOf (strKind prog w) S (λk'=>(met val (i+1)).any (·==k')) (met val (i+1)).length :=
   SetOf_congr hS2 (λk'=>by rw[q9t,z0z]) (by rw[q9t,q7x])
  refine wpAny_pure ⟨plainId_quiet PyProof.Rows.F.plain_set_update_loop _,ih (i+1) _ (by omega) hlt (W.frame _ s' _ _ hst' (Nat.le_succ _) λb hb o e=>?_) hSi λs'' hm'' hS''=>?_⟩
  ·rw[hsb.2 b (λh:b=S=>hSf (by rw[←h];exact hb))];exact e
  ·refine hR s'' (Moved.trans W.gtrans ((hm.mono hsub).then_heap (Nat.le_succ _) λb o hb e=>?_) hm'') hS''
   rw[hsb.2 b (λh:b=S=>hb (by rw[h];exact List.mem_cons_self))];exact e
end
def q6o(x:Str)(i:Nat):Str:=⟨#[x.cps.getD i 0]⟩
theorem walks_txt{prog:Program}{w:World}{A:Around}(hh:A.handled=none)(I:Addr)(x:Str)(t:Tok):
  Walks prog w A I [I] [I] x.cps.size (λi v=>∃u,v= .str (q6o x i) u) (λi h=>h.IsStrIter I (strIterType x) x t i) where
 sub:=λ_ hb=>hb
 frame:=λ_ _ _ st hk=>let ⟨o,ho,r⟩:=st;⟨o,hk I (by simp) o ho,r⟩
 item:=λi s Q E hi st hQ=>by
  refine q7s st (k:=x.cps.getD i 0) (by simp[hi]) λh' hit' hs'=>?_
  exact hQ _ h' (s.toks+1) ⟨_,rfl⟩ hit' λb o hb e=>hs'.extBut b o (λh=>hb (by simp[h])) e
 done:=λs Q E st hQ=>q8o hh st (by simp) λh' he'=>hQ h' s.toks λb o hb e=>he' b o (λh=>hb (by simp[h])) e
 self:=λ_ _ _ _ st hQ=>q8p st hQ
theorem sub_str_setG:isSubtype (.type "str") (.type "set")=pure false:=by rw[isSubtype_type];kernel_rfl
theorem q9c:isSubtype (.type "str") (.type "frozenset")=pure false:=by rw[isSubtype_type];kernel_rfl
section
variable{prog:Program}{w:World}{A:Around}{E:Value->Shared->Prop}{s:Shared}
set_option maxHeartbeats 3200000 in
theorem call_set_txt{x:Str}{t:Tok}{Q:Value->Shared->Prop}(hh:A.handled=none)(hb:x.cps.size+1<scanBound)
  (h:∀(h':Heap) (tk:Nat),h'.SetOf (strKind prog w) s.heap.objs.size (λk'=>(met (q6o x) x.cps.size).any (·==k')) (met (q6o x) x.cps.size).length →
   (∀b o,b<s.heap.objs.size->s.heap.get? b=some o->h'.get? b=some o)->Q (.ref s.heap.objs.size) { s with heap:=h',toks:=tk }) :
  wpAny (model prog w) A (call (.type "set") [.str x t]) Q E s:=by
 obtain⟨c,tl,hmro⟩:=F.called_set.mro
 have hmade:=F.called_set.made
 have hsub:=F.called_set.sub
 refine wpAny_call (codeAny_of_tree ?_)
 show wpAny _ _ (callAny (.type "set") _) _ _ _
 refine wpAny_pure ⟨Code.quiet_builtin _ (by decide +kernel),codeAny_builtin F.entry_type_call ?_⟩
 rw[Around.under_plain (weight_type_call_type "set" [.str x t] []) rfl]
 have h1:=F.called_set.notType
 have h2:=F.called_set.canCreate
 have hct:=F.typeCall_set_1 (.str x t)
 repeat (any_goals (first|assumption|wp_step))
 refine codeAny_mono (code_set_new_1 (.str x t) (E:=E) (Q₁:=λobj s₁=>∃led:Bool,obj= .ref s.heap.objs.size/\s₁={ s with heap:=s.heap.push { cls:=.type "set",dict:=none,data:=.set #[] 0 (.fresh 0 0 led) } }) λled=>⟨led,rfl,rfl⟩) λr s₁ hr=>?_
 cases r with
 |error e=>exact hr
 |ok fl =>
  cases fl with
  |ret obj =>
   obtain⟨led,rfl,rfl⟩:=hr
   have hS:(s.heap.push { cls:=.type "set",dict:=none,data:=.set #[] 0 (.fresh 0 0 led) }).get? s.heap.objs.size=some { cls:=.type "set",dict:=none,data:=.set #[] 0 (.fresh 0 0 led) }:=Heap.get?_push_size _ rfl
   have hT:Shared.TypeIs { s with heap:=s.heap.push { cls:=.type "set",dict:=none,data:=.set #[] 0 (.fresh 0 0 led) } } (.ref s.heap.objs.size) "set" :=⟨_,hS,rfl⟩
   have hli:=F.called_set.init.lookup
   have hbi:=F.called_set.init.bind (.ref s.heap.objs.size)
   repeat (any_goals (first|assumption|wp_step))
   refine codeAny_mono (codeAny_call_builtin (R:=wants (λr s₂=>r= .none/\∃h' tk,s₂={ s with heap:=h',toks:=tk } ∧
     h'.SetOf (strKind prog w) s.heap.objs.size (λk'=>(met (q6o x) x.cps.size).any (·==k')) (met (q6o x) x.cps.size).length ∧
     (∀b o,b<s.heap.objs.size->s.heap.get? b=some o->h'.get? b=some o)) E) F.called_set.init.plain F.entry_set_init (check_set_init_1 hT ?_)) λr₂ s₂ hr₂=>?_
   ·have hsls:=sub_str_setG
    have hslf:=q9c
    have hne:(Value.type "str" ==Value.type "dict")=false:=by decide
    unfold Builtin.«set.__init__» noKeywords Builtin.Frozenset.updateFrom
    generalize hPI:pyIter=PI
    wp_walk
    subst hPI
    refine wpAny_pyIter_strU ?_
    refine wpAny_bind (wpAny_runValue ?_)
    have hh3:A.in1.in1.in1.handled=none:=by simp[hh]
    have hSf:s.heap.objs.size∉[(s.heap.push { cls:=.type "set",dict:=none,data:=.set #[] 0 (.fresh 0 0 led) }).objs.size]:=by
     rw[Heap.size_push];simp only[List.mem_singleton]
     exact Nat.ne_of_lt (Nat.lt_succ_self _)
    refine set_loop_txt ((walks_txt hh3 _ x t).toS) s.heap.objs.size hSf (q6o x) (λi v hv=>hv) hb (x.cps.size-0) 0 _ (by omega) (Nat.zero_le _)
     ⟨_,Heap.get?_push_size _ rfl,rfl,rfl⟩ ?hS0 ?hR
    case hS0 =>
     have hget:((s.heap.push { cls:=.type "set",dict:=none,data:=.set #[] 0 (.fresh 0 0 led) }).push { cls:=.type (strIterType x),data:=.fields #[.str x t,.int 0 0] }).get? s.heap.objs.size
       = some { cls:=.type "set",dict:=none,data:=.set #[] 0 (.fresh 0 0 led) }:=Heap.get?_push_of_some _ hS
     exact SetOf_congr ((setObjOf_fresh (knd:=strKind prog w) led).setOf hget (by unfold scanBound;omega)) (λ_=>rfl) rfl
    case hR =>
     intro s' hm hS'
     obtain⟨h',g',d',tk',os'⟩:=s'
     have eg:g'=s.gens:=hm.gens
     have ed:d'=s.drawn:=hm.drawn
     have eo:os'=s.os:=hm.os
     subst eg;subst ed;subst eo
     show wpAny _ _ _ _ _ _
     refine wpAny_pure ?_
     show wpAny _ _ (ret Value.none) _ _ _
     refine wpAny_pure ⟨rfl,h',tk',rfl,hS',λb o hb e=>?_⟩
     have hb1:b≠s.heap.objs.size:=Nat.ne_of_lt hb
     have hb2:b≠(s.heap.push { cls:=.type "set",dict:=none,data:=.set #[] 0 (.fresh 0 0 led) }).objs.size:=by
      rw[Heap.size_push];exact Nat.ne_of_lt (Nat.lt_succ_of_lt hb)
     exact hm.heap b o (by simp only[List.mem_cons,List.mem_singleton,List.not_mem_nil,or_false,not_or];exact⟨hb1,hb2⟩) (Heap.get?_push_of_some _ (Heap.get?_push_of_some _ e))
   ·cases r₂ with
    |error e=>exact hr₂
    |ok fl₂ =>
     cases fl₂ with
     |ret r =>
      obtain⟨rfl,h',tk,rfl,hS',hk'⟩:=hr₂
      repeat (any_goals (first|assumption|wp_step))
      exact h _ _ hS' hk'
     |_=>exact hr₂.elim
  |_=>exact hr.elim
end
end L2
namespace L2
open PySem PySem.Spec PyProof.Rows
def setO(P:Program)(w:World)(a:Addr)(n:Nat):HO:=.ext λh=>∃S,h.SetOf (strKind P w) a S n
section
variable{X:Cx}
theorem call_setT(hc:X.calm=true):z0w X (.type "set") (λxs H Q=>∃x,xs=[.str x]/\x.cps.size+1<scanBound/\∀p,H p=none->Q (.ref p) (upd H p (setO X.prog X.w p (met (q6o x) x.cps.size).length))):=by
 intro pins s σ H xs us Q I r h
 obtain⟨x,rfl,hb,q⟩:=h
 obtain⟨u,rfl,t,rfl⟩:=z2c r
 refine TK.wpAny_up (Nat.le_refl s.toks) (call_set_txt (I.ok.hd hc) hb λh' tk hS kk hup=>?_)
 have hn:H s.heap.objs.size=none:=I.fresh
 have k:∀b o,s.heap.get? b=some o->h'.get? b=some o:=λb o e=>kk b o (Heap.lt_size e) e
 refine⟨.ref s.heap.objs.size,_,I.laid (t':=tk) k (Nat.le_refl _) ?_,rfl,q _ hn⟩
 refine⟨⟨_,hS⟩,?_,λh1 h2 p e=>?_⟩
 ·obtain⟨o,_,_,_,ho,_⟩:=hS
  exact⟨o,ho⟩
 ·obtain⟨S,o,es,ep,t,ho,rest⟩:=p
  exact⟨S,o,es,ep,t,e o ho,rest⟩
theorem z6f:z0w X (.builtin "len") (λxs H Q=>∃p n,xs=[.ref p]/\H p=some (setO X.prog X.w p n)/\Q (.int (n:Nat)) H):=by
 intro pins s σ H xs us Q I r h
 obtain⟨p,n,rfl,hp,q⟩:=h
 obtain⟨u,rfl,ru⟩:=z2c r
 cases ru
 obtain⟨⟨S,o,es,ep,t,ho,hex,hd,_,_,hz,hf,hn⟩,_⟩:=I.hok p _ hp
 subst hn
 have:es.size<4096:=hz
 exact call_len_set ho hex hd hf (by omega) ⟨.int es.size,H,I.tok _,⟨_,rfl⟩,q⟩
def Bg(i:Int):Prop:=i.natAbs<2 ^ 9000
theorem Bg.log{i:Int}(h:Bg i):i.natAbs.log2<9000:=by
 rcases Nat.eq_zero_or_pos i.natAbs with h0|hp
 ·rw[h0];decide
 ·exact(Nat.log2_lt (by omega)).mpr h
theorem Bg.bits{i:Int}(h:Bg i):Builtin.Int.intBits i<=2 ^ 20:=by
 have:=h.log
 unfold Builtin.Int.intBits
 split
 ·exact Nat.zero_le _
 ·exact Nat.le_trans (show i.natAbs.log2+1<=9000 by omega) (by decide)
theorem op_mulB:OpR X (binaryOp .Mult) (rI (λi j=>Bg i/\Bg j) λi j=>.int (i*j)):=opI λ_ _ _ _ _ _ _ hc q=>mul_int q (IntMulOk.of_bits hc.1.bits hc.2.bits)
def q6m(xs ys:List V):Bool:=(List.range (min xs.length ys.length)).all (λj=>eqV (xs.getD j .non) (ys.getD j .non))&&xs.length==ys.length
theorem flat_at{A:Around}{s:Shared}{xs ys:List V}{us vs:List Value}(rx:Vals xs us)(ry:Vals ys vs)(fx:xs.all q8k=true)(fy:ys.all q8k=true):
  ∀j (h1:j<us.toArray.size) (h2:j<vs.toArray.size),SeqAt.EqAt A s us.toArray[j] vs.toArray[j] (eqV (xs.getD j .non) (ys.getD j .non)):=by
 intro j h1 h2
 have l1:=rx.length
 have l2:=ry.length
 have h1':j<xs.length:=by rw[l1];simpa using h1
 have h2':j<ys.length:=by rw[l2];simpa using h2
 obtain⟨u,eu,ru⟩:=rx.get (i:=j) (x:=xs[j]) (by simp[h1'])
 obtain⟨v,ev,rv⟩:=ry.get (i:=j) (x:=ys[j]) (by simp[h2'])
 have e1:us.toArray[j]=u:=by
  rw[List.getElem?_eq_getElem (by simpa using h1)]at eu
  simpa using Option.some.inj eu
 have e2:vs.toArray[j]=v:=by
  rw[List.getElem?_eq_getElem (by simpa using h2)]at ev
  simpa using Option.some.inj ev
 rw[e1,e2,List.getD_eq_getElem?_getD,List.getD_eq_getElem?_getD,List.getElem?_eq_getElem h1',List.getElem?_eq_getElem h2',Option.getD_some,Option.getD_some]
 exact eqAt_V ru rv (List.all_eq_true.mp fx _ (List.getElem_mem h1')) (List.all_eq_true.mp fy _ (List.getElem_mem h2'))
def rEqT(K:PySem.W.Frag)(neg:Bool):R2:=λx y H Q=>∃p q xs ys,x= .ref p/\y= .ref q/\SqT K H p xs/\SqT K H q ys/\xs.all q8k=true/\ys.all q8k=true/\Q (.bl (if neg then !q6m xs ys else q6m xs ys)) H
theorem op_eqT(hu:X.A.units<cLine):OpR X (compareOp .Eq) (rEqT X.K false):=by
 intro pins s σ H x y v u Q I rx ry h
 obtain⟨p,q,xs,ys,rfl,rfl,hp,hq,fx,fy,k⟩:=h
 cases rx
 cases ry
 obtain⟨us,r1,t1,_⟩:=I.tuple hp
 obtain⟨vs,r2,t2,_⟩:=I.tuple hq
 refine SeqAt.RcAt.tuples (A:=X.A) (s:=s) t1 t2 hu (flat_at r1 r2 fx fy) X.prog X.w X.xe _ ⟨.bl (q6m xs ys),H,I,?_,k⟩
 unfold q6m
 rw[r1.length,r2.length,List.size_toArray,List.size_toArray]
 rfl
theorem op_neT(hu:X.A.units<cLine):OpR X (compareOp .NotEq) (rEqT X.K true):=by
 intro pins s σ H x y v u Q I rx ry h
 obtain⟨p,q,xs,ys,rfl,rfl,hp,hq,fx,fy,k⟩:=h
 cases rx
 cases ry
 obtain⟨us,r1,t1,_⟩:=I.tuple hp
 obtain⟨vs,r2,t2,_⟩:=I.tuple hq
 refine SeqAt.RcNeAt.tuples (A:=X.A) (s:=s) t1 t2 hu (flat_at r1 r2 fx fy) X.prog X.w X.xe _ ⟨.bl (!q6m xs ys),H,I,?_,k⟩
 unfold q6m
 rw[r1.length,r2.length,List.size_toArray,List.size_toArray]
 rfl
end
end L2
namespace L2
open PySem PySem.Spec PyProof.Rows
def Itc(K:PySem.W.Frag)(c:Cp):It :=
 ⟨λi H=>∃xs x,c.at K H xs/\xs[i]? =some x,λi H x H'=>H'=H/\∀xs,c.at K H xs->xs[i]? =some x,λi H=>∃xs,c.at K H xs/\xs.length<=i⟩
theorem Turn.conv{P:Program}{w:World}{K:PySem.W.Frag}{tg:Expr}{J J':It}{fp:List Addr}{it:Addr}{tn:Nat->Heap->Prop}(T:Turn P w K tg J fp it tn)
  (hg:∀i H,J'.go i H->J.go i H) (hy:∀i H x H',J.yld i H x H'->J'.yld i H x H') (hs:∀i H,J'.stop i H->J.stop i H):Turn P w K tg J' fp it tn where
 mem:=T.mem
 obj:=T.obj
 keep:=T.keep
 item:=λX hP hw hK hc i pins s σ H E I hf st g=>wpAny_mono (T.item X hP hw hK hc i pins s σ H E I hf st (hg i H g)) (λr s1 ⟨u,hr,h⟩=>⟨u,hr,wpAny_mono h (λ_ s2 ⟨x,H',I',r',y,t',n'⟩=>⟨x,H',I',r',hy i H x H' y,t',n'⟩) λ_ _ z=>z⟩) λ_ _ z=>z
 done:=λX hP hw hK hc i pins s σ H E I hf st g=>T.done X hP hw hK hc i pins s σ H E I hf st (hs i H g)
 self:=T.self
theorem q3o(x:Str):(q2r x).length=x.cps.size:=by simp[q2r]
theorem signs_at{x:Str}{i k:Nat}(h:x.cps[i]? =some k):(q2r x)[i]? =some (.str ⟨#[k]⟩):=by
 unfold q2r
 rw[List.getElem?_map]
 have e:x.cps.toList[i]? =some k:=by simpa using h
 rw[e]
 rfl
section
variable{X:Cx}{tg:Expr}
def iCp(K:PySem.W.Frag)(tl:TE):TI:=λσ H R=>tl σ H λv H1=>∃c xs,v=Cp.val c/\c.at K H1 xs/\R (Itc K c) H1
theorem pi_cp{l:Expr}{tl:TE}(hl:PE X l tl):PI X tg l (iCp X.K tl):=by
 intro pins s σ H R I h
 refine thn (hl pins s σ H _ I h) λv s1 ⟨y,H1,I1,r1,q1⟩=>?_
 obtain⟨c,xs,e,hq,q⟩:=q1
 subst e
 have fp1:∀b∈[s1.heap.objs.size],FpOk X pins H1 b:=λb hb=>by
  have e:b=s1.heap.objs.size:=by simpa using hb
  subst e
  exact I1.fpOk (Nat.le_refl _) (I1.hok.fresh (Nat.le_refl _))
 cases c with
 |lst a =>
  cases (show v=Value.ref a from r1)
  obtain⟨its,rv,p,hz⟩:=I1.list hq
  refine wpAny_pyIter_list p.isList ?_
  exact⟨s1.heap.objs.size,[s1.heap.objs.size],_,_,H1,rfl,I1.kept (t':=s1.toks) λb o e=>Heap.get?_push_of_some _ e,turn_list a _,⟨_,Heap.get?_push_size _ rfl,rfl,rfl⟩,fp1,q⟩
 |tup a =>
  cases (show v=Value.ref a from r1)
  obtain⟨its,rv,p,hz⟩:=I1.tuple hq
  refine wpAny_pyIter_tuple (show s1.heap.IsTuple a its.toArray from p) ?_
  exact⟨s1.heap.objs.size,[s1.heap.objs.size],_,_,H1,rfl,I1.kept (t':=s1.toks) λb o e=>Heap.get?_push_of_some _ e,turn_tuple a _,⟨_,Heap.get?_push_size _ rfl,rfl,rfl⟩,fp1,q⟩
 |txt x =>
  obtain⟨t,rfl⟩:=(show ∃t,v=Value.str x t from r1)
  refine wpAny_pyIter_strU ?_
  refine⟨s1.heap.objs.size,[s1.heap.objs.size],_,_,H1,rfl,I1.kept (t':=s1.toks) λb o e=>Heap.get?_push_of_some _ e,(turn_txt x t _).conv ?_ ?_ ?_,⟨_,Heap.get?_push_size _ rfl,rfl,rfl⟩,fp1,q⟩
  ·rintro i H ⟨xs,y,hx,e⟩
   rw[show xs=q2r x from hx]at e
   have:=(List.getElem?_eq_some_iff.mp e).1
   rw[q3o]at this
   exact this
  ·rintro i H y H' ⟨rfl,k,e,rfl⟩
   refine⟨rfl,λxs hx=>?_⟩
   rw[show xs=q2r x from hx]
   exact signs_at e
  ·rintro i H ⟨xs,hx,e⟩
   rw[show xs=q2r x from hx,q3o]at e
   exact e
theorem for_cp{K:PySem.W.Frag}{c:Cp}{xs:List V}{g:TG}{tb:TS}{D:Ends}{σ:St}{H:Hp}(Pv:Nat->St->Hp->Prop)(h0:Pv 0 σ H)(hl:∀i σ H,i<=xs.length->Pv i σ H->c.at K H xs)
  (hs:∀i x σ H,xs[i]? =some x->Pv i σ H->g x σ H λσ2 H2=>tb { D with nx:=Pv (i+1),ct:=Pv (i+1),bk:=D.nx } σ2 H2) (hd:∀ σ H,Pv xs.length σ H->D.nx σ H) :
  ∃W:Nat->Nat->St->Hp->Prop,(∃m,W 0 m σ H)/\∀i m σ H,W i m σ H →
   ((Itc K c).stop i H/\D.nx σ H)\/((Itc K c).go i H/\∃N:St->Hp->Prop,(∀ σ' H',N σ' H'->∃m',m'<m/\W (i+1) m' σ' H')/\∀x H',(Itc K c).yld i H x H'->g x σ H' λσ2 H2=>tb { D with nx:=N,ct:=N,bk:=D.nx } σ2 H2):=by
 refine⟨λi m σ H=>m=xs.length-i/\i<=xs.length/\Pv i σ H,⟨xs.length,by simp,Nat.zero_le _,h0⟩,?_⟩
 rintro i m σ H ⟨rfl,hi,p⟩
 have q:=hl i σ H hi p
 by_cases hlt:i<xs.length
 ·refine .inr ⟨⟨xs,xs[i],q,by simp[hlt]⟩,Pv (i+1),λσ' H' p'=>⟨xs.length-(i+1),by omega,rfl,hlt,p'⟩,λx H' y=>?_⟩
  obtain⟨e,y⟩:=y
  subst e
  exact hs i x σ _ (y xs q) p
 ·have e:i=xs.length:=by omega
  subst e
  exact .inl ⟨⟨xs,q,Nat.le_refl _⟩,hd σ H p⟩
end
end L2
namespace GwM
def lo(a b:Int):Int×Int:=(a / (Int.gcd a b:Int),b / (Int.gcd a b:Int))
theorem z0o(a:Int){b:Int}(hb:0<b):0<(Int.gcd a b:Int):=by
 have:0<Int.gcd a b:=Int.gcd_pos_of_ne_zero_right a (by omega)
 omega
theorem gcd_le(a:Int){b:Int}(hb:0<b):(Int.gcd a b:Int)<=b:=Int.le_of_dvd hb (Int.gcd_dvd_right ..)
theorem lo_pos(a:Int){b:Int}(hb:0<b):0<(lo a b).2 :=
 Int.ediv_pos_of_pos_of_dvd hb (Int.le_of_lt (z0o a hb)) (Int.gcd_dvd_right ..)
theorem lo_le(a:Int){b:Int}(hb:0<b):(lo a b).2<=b:=by
 have h:=z0o a hb
 exact Int.ediv_le_self _ (Int.le_of_lt hb)
theorem gcd_turn(a b:Int):Int.gcd b (a % b)=Int.gcd a b:=by
 have e:a=a % b+b*(a / b):=(Int.emod_add_mul_ediv a b).symm
 have h:Int.gcd (a % b+b*(a / b)) b=Int.gcd (a % b) b:=Int.gcd_add_mul_left_left ..
 rw[←e]at h
 rw[h,Int.gcd_comm]
theorem gcd_end(a:Int):(if a<0 then -a else a)=(Int.gcd a 0:Int):=by
 rw[Int.gcd_zero_right]
 split<;>omega
end GwM
namespace GP
open PySem L2 GwM
abbrev Fra:=Int×Int
def loF(f:Fra):Fra:=lo f.1 f.2
theorem Same.upd{H:Hp}{q:Addr}{o:HO}(h:H q=none):Same H (L2.upd H q o):=λb u e=>by rw[upd_ne (q0x e h)];exact e
theorem Same.at{H H2:Hp}{t:Addr}{o:HO}(e:Same H H2)(h:H t=none):Same H (L2.upd H2 t o):=λb u q=>by rw[upd_ne (q0x q h)];exact e b u q
theorem Same.tup{K:PySem.W.Frag}{H H':Hp}{a:Addr}{xs:List V}(e:Same H H')(h:SqT K H a xs):SqT K H' a xs:=by
 rcases h with(h|⟨o,h⟩)|h
 ·exact .inl (.inl (e _ _ h))
 ·exact .inl (.inr ⟨o,e _ _ h⟩)
 ·exact .inr h
theorem Same.cp{K:PySem.W.Frag}{H H':Hp}{c:Cp}{xs:List V}(e:Same H H')(h:c.at K H xs):c.at K H' xs:=by
 cases c with
 |lst a=>exact Same.seq e h
 |tup a=>exact Same.tup e h
 |txt x=>exact h
def FrAt(K:PySem.W.Frag)(H:Hp)(p:Addr)(f:Fra):Prop:=SqT K H p [.int f.1,.int f.2]
theorem FrAt.same{K:PySem.W.Frag}{H H':Hp}{p:Addr}{f:Fra}(e:Same H H')(h:FrAt K H p f):FrAt K H' p f:=Same.tup e h
def RowAt(K:PySem.W.Frag)(H:Hp)(c:Cp)(fs:List Fra):Prop:=∃ps:List Addr,c.at K H (ps.map V.ref)/\Paired (FrAt K H) ps fs
theorem RowAt.same{K:PySem.W.Frag}{H H':Hp}{c:Cp}{fs:List Fra}(e:Same H H')(h:RowAt K H c fs):RowAt K H' c fs:=by
 obtain⟨ps,a,b⟩:=h
 exact⟨ps,Same.cp e a,Paired.mapP b λ_ _ z=>z.same e⟩
def MatAt(K:PySem.W.Frag)(H:Hp)(c:Cp)(rows:List (List Fra)):Prop:=∃cs:List Cp,c.at K H (cs.map Cp.val)/\Paired (RowAt K H) cs rows
theorem Paired.at{α β:Type}{F:α->β->Prop}:∀{l₁:List α} {l₂:List β} {i:Nat} {x:α},Paired F l₁ l₂->l₁[i]? =some x->∃y,l₂[i]? =some y/\F x y
 |_,_,i,_,.nil,e=>by simp at e
 |_,_,0,_,.cons r _,e=>by simp at e;subst e;exact⟨_,rfl,r⟩
 |_,_,i+1,x,.cons _ t,e=>by
  obtain⟨y,h1,h2⟩:=Paired.at (i:=i) (x:=x) t (by simpa using e)
  exact⟨y,by simpa using h1,h2⟩
theorem Paired.len{α β:Type}{F:α->β->Prop}{l₁:List α}{l₂:List β}(h:Paired F l₁ l₂):l₁.length=l₂.length:=Paired.length h
theorem Paired.snoc{α β:Type}{F:α->β->Prop}{x:α}{y:β}:∀{l₁:List α} {l₂:List β},Paired F l₁ l₂->F x y->Paired F (l₁++[x]) (l₂++[y])
 |_,_,.nil,h=>.cons h .nil
 |_,_,.cons r t,h=>.cons r (Paired.snoc t h)
theorem q5k{α:Type}{l:List α}{i:Nat}{x:α}(h:l[i]? =some x):l.take (i+1)=l.take i++[x]:=by
 rw[List.take_add_one,h];rfl
theorem q9v{α β:Type}{l:List α}{f:α->β}{i:Nat}{x:α}(h:l[i]? =some x):(l.map f).take (i+1)=(l.map f).take i++[f x]:=q5k (by rw[List.getElem?_map,h];rfl)
theorem z1b{i j:Int}{A B:Prop}(h1:i≠j->A)(h2:i=j->B):if(!decide (V.int i=V.int j))=true then A else B:=by
 by_cases h:i=j
 ·rw[z0t,if_neg (by simp[h])];exact h2 h
 ·rw[z0t,if_pos (by simp[h])];exact h1 h
theorem ite_eq{i j:Int}{A B:Prop}(h1:i=j->A)(h2:i≠j->B):if(decide (V.int i=V.int j))=true then A else B:=by
 by_cases h:i=j
 ·rw[z0t,if_pos (by simp[h])];exact h1 h
 ·rw[z0t,if_neg (by simp[h])];exact h2 h
theorem q2n{p:Prop}[Decidable p]{A B:Prop}(h1:p->A)(h2:¬p->B):if(decide p)=true then A else B:=by
 by_cases h:p
 ·rw[if_pos (decide_eq_true h)];exact h1 h
 ·rw[if_neg (by rw[decide_eq_false h];exact Bool.false_ne_true)];exact h2 h
theorem iteNF{A B:Prop}(h:A):if(!false)=true then A else B:=by
 rw[if_pos (show(!false)=true from rfl)];exact h
theorem z3a{A B:Prop}(h:B):if(!true)=true then A else B:=by
 rw[if_neg (by decide)];exact h
structure Dn(K:PySem.W.Frag)(mg:Str->Option Value)(x:Str)(st:Stmt)(ps:List Str)(f:Addr)(fd:FuncData):Prop where
 fn:Fun K x x st f fd
 b:Binds K fd ps []
 m:mg x=some (.ref f)
def spGcd:Sp:=λvs H Q _=>∃a b:Int,vs=[.int a,.int b]/\0<=b/\Q (.int (Int.gcd a b)) H
def lm(a b:Int):Int:=a / (Int.gcd a b:Int)*b
def spLow(K:PySem.W.Frag):Sp:=λvs H Q _=>∃(p:Addr) (f:Fra),vs=[.ref p]/\FrAt K H p f/\0<f.2/\f.2<1073741824 ∧
 ∀q,H q=none->Q (.ref q) (L2.upd H q (.tup [.int (loF f).1,.int (loF f).2]))
def OkF(f:Fra):Prop:=1<=f.2/\f.2<1073741824
def z0f(K:PySem.W.Frag):Sp:=λvs H Q _=>∃(p:Addr) (f:Fra),vs=[.ref p]/\FrAt K H p f/\OkF f ∧
 ∀q,H q=none->Q (.ref q) (L2.upd H q (.tup [.int (loF f).1,.int (loF f).2]))
def z2h(K:PySem.W.Frag):Sp:=λvs H Q _=>∃(c:Cp) (fs:List Fra),vs=[c.val]/\RowAt K H c fs/\(∀f∈fs,OkF f)/\fs.length<=1000 ∧
 ∀q H',Same H H'->H q=none->RowAt K H' (.tup q) (fs.map loF)->Q (.ref q) H'
def q0s(o m:Int)(rows:List (List Fra)):Int:=(rows.flatten.map (·.2)).foldl lm (lm o m)
def q5u(fo fm:Fra)(rows:List (List Fra)):List Int:=fo.2::fm.2::rows.flatten.map (·.2)
def spUnders(K:PySem.W.Frag):Sp:=λvs H Q _=>∃(P o m:Addr) (rows:List (List Fra)) (fo fm:Fra),vs=[.ref P,.ref o,.ref m]/\MatAt K H (.tup P) rows/\FrAt K H o fo/\FrAt K H m fm ∧
 rows.length<=12/\(∀r∈rows,r.length<=12)/\∀l H',Same H H'->H l=none->H' l=some (.lst ((q5u fo fm rows).map V.int))->Q (.ref l) H'
def z0q(p:List Int×Int)(b:Int):List Int×Int:=if b / (Int.gcd p.2 b:Int)>1 then(p.1++[b / (Int.gcd p.2 b:Int)],p.2*(b / (Int.gcd p.2 b:Int)))else p
def z0r(ns:List Int):List Int×Int:=ns.foldl z0q ([],1)
def q8s(n:Int):Prop:=0<n/\n<1073741824
def spFactors(K:PySem.W.Frag):Sp:=λvs H Q _=>∃(l:Addr) (ns:List Int),vs=[.ref l]/\SqL K H l (ns.map V.int)/\ns.length<=1000/\(∀n∈ns,q8s n) ∧
 ∀q H',Same H H'->H q=none->H' q=some (.lst ((z0r ns).1.map V.int))->Q (.ref q) H'
def prodI(fs:List Int):Int:=fs.foldl (·*·) 1
def spProd(K:PySem.W.Frag):Sp:=λvs H Q _=>∃(l:Addr) (fs:List Int),vs=[.ref l]/\SqL K H l (fs.map V.int)/\(∀n∈fs,q8s n)/\Q (.int (prodI fs)) H
def z4s(K:PySem.W.Frag):Sp:=λvs H Q _=>∃(p:Addr) (f:Fra) (u:Int),vs=[.ref p,.int u]/\FrAt K H p f/\OkF f/\Bg f.1/\Bg (u / f.2)/\Q (.int (f.1*(u / f.2))) H
theorem lm_one{b:Int}:lm 1 b=b:=by
 unfold lm
 rw[Int.gcd_one_left]
 simp
theorem lm_alt{a b:Int}:lm a b=a*(b / (Int.gcd a b:Int)):=by
 unfold lm
 rw[←Int.mul_ediv_assoc' b (Int.gcd_dvd_left a b),Int.mul_ediv_assoc a (Int.gcd_dvd_right a b)]
structure FacIs(p:List Int×Int)(ns:List Int):Prop where
 small:∀f∈p.1,q8s f
 prod:prodI p.1=p.2
 unit:p.2=ns.foldl lm 1
 pos:0<p.2
 len:p.1.length<=ns.length
theorem z4i(fs:List Int)(f:Int):prodI (fs++[f])=prodI fs*f:=by
 unfold prodI
 rw[List.foldl_append]
 rfl
theorem fac_div{u b:Int}(hb:q8s b):0<b / (Int.gcd u b:Int)/\b / (Int.gcd u b:Int)<=b:=by
 have g1:=z0o u hb.1
 exact⟨Int.ediv_pos_of_pos_of_dvd hb.1 (Int.le_of_lt g1) (Int.gcd_dvd_right u b),Int.ediv_le_self _ (Int.le_of_lt hb.1)⟩
theorem FacIs.step{p:List Int×Int}{ns:List Int}{b:Int}(h:FacIs p ns)(hb:q8s b):FacIs (z0q p b) (ns++[b]):=by
 obtain⟨d1,d2⟩:=fac_div (u:=p.2) hb
 have e:(ns++[b]).foldl lm 1=p.2*(b / (Int.gcd p.2 b:Int)):=by
  rw[List.foldl_append,←h.unit]
  exact lm_alt
 unfold z0q
 split
 ·next h1 =>
  refine⟨λf hf=>?_,?_,e.symm,Int.mul_pos h.pos d1,?_⟩
  ·rcases List.mem_append.mp hf with hf|hf
   ·exact h.small f hf
   ·rw[List.mem_singleton.mp hf]
    exact⟨d1,Int.lt_of_le_of_lt d2 hb.2⟩
  ·rw[z4i,h.prod]
  ·rw[List.length_append,List.length_append]
   exact Nat.add_le_add_right h.len 1
 ·next h1 =>
  have e1:b / (Int.gcd p.2 b:Int)=1:=by omega
  refine⟨h.small,h.prod,?_,h.pos,?_⟩
  ·rw[e,e1,Int.mul_one]
  ·rw[List.length_append]
   exact Nat.le_trans h.len (Nat.le_add_right _ _)
theorem z4n(ns:List Int)(b:Int):z0r (ns++[b])=z0q (z0r ns) b:=by
 unfold z0r
 rw[List.foldl_append]
 rfl
theorem z3e{ns:List Int}(h:∀n∈ns,q8s n):∀i,i<=ns.length->FacIs (z0r (ns.take i)) (ns.take i)
 | 0,_=>by
  rw[List.take_zero]
  exact⟨λf hf=>(by cases hf),rfl,rfl,(by decide),Nat.le_refl _⟩
 |i+1,hi=>by
  have e:=List.getElem?_eq_getElem (l:=ns) (i:=i) hi
  rw[q5k e,z4n]
  exact(z3e h i (Nat.le_of_lt hi)).step (h _ (List.getElem_mem hi))
theorem facs_is{ns:List Int}(h:∀n∈ns,q8s n):FacIs (z0r ns) ns:=by
 have z:=z3e h ns.length (Nat.le_refl _)
 rw[List.take_length]at z
 exact z
theorem unders_unit(fo fm:Fra)(rows:List (List Fra)):(q5u fo fm rows).foldl lm 1=q0s fo.2 fm.2 rows:=by
 unfold q5u q0s
 rw[List.foldl_cons,List.foldl_cons,lm_one]
end GP
namespace GP
open PySem L2 GwM
structure Dm(K:PySem.W.Frag)(x qual:Str)(st:Stmt)(ps:List Str)(f:Addr)(fd:FuncData):Prop where
 fn:Fun K x qual st f fd
 b:Binds K fd ps []
def Dat(H H':Hp):Prop:=∀b u,(∀C dx fs,u≠HO.ins C dx fs)->H b=some u->H' b=some u
theorem Dat.of{H H':Hp}(e:Same H H'):Dat H H':=λb u _ h=>e b u h
theorem Dat.trans{H H' H'':Hp}(e:Dat H H')(f:Dat H' H''):Dat H H'':=λb u n h=>f b u n (e b u n h)
theorem Dat.set{H:Hp}{x C dx:Addr}{fs fs':List (Str×V)}(h:H x=some (.ins C dx fs)):Dat H (L2.upd H x (.ins C dx fs')):=λb u n e=>by
 rw[upd_ne (λz=>by subst z;rw[h]at e;cases e;exact n _ _ _ rfl)];exact e
theorem Dat.tup{K:PySem.W.Frag}{H H':Hp}{a:Addr}{xs:List V}(e:Dat H H')(h:SqT K H a xs):SqT K H' a xs:=by
 rcases h with(h|⟨o,h⟩)|h
 ·exact .inl (.inl (e _ _ (λ_ _ _ z=>by cases z) h))
 ·exact .inl (.inr ⟨o,e _ _ (λ_ _ _ z=>by cases z) h⟩)
 ·exact .inr h
theorem Dat.lst{K:PySem.W.Frag}{H H':Hp}{a:Addr}{xs:List V}(e:Dat H H')(h:SqL K H a xs):SqL K H' a xs:=by
 rcases h with(h|⟨o,h⟩)|h
 ·exact .inl (.inl (e _ _ (λ_ _ _ z=>by cases z) h))
 ·exact .inl (.inr ⟨o,e _ _ (λ_ _ _ z=>by cases z) h⟩)
 ·exact .inr h
theorem Dat.cp{K:PySem.W.Frag}{H H':Hp}{c:Cp}{xs:List V}(e:Dat H H')(h:c.at K H xs):c.at K H' xs:=by
 cases c with
 |lst a=>exact Dat.lst e h
 |tup a=>exact Dat.tup e h
 |txt x=>exact h
theorem FrAt.dat{K:PySem.W.Frag}{H H':Hp}{p:Addr}{f:Fra}(e:Dat H H')(h:FrAt K H p f):FrAt K H' p f:=Dat.tup e h
theorem RowAt.dat{K:PySem.W.Frag}{H H':Hp}{c:Cp}{fs:List Fra}(e:Dat H H')(h:RowAt K H c fs):RowAt K H' c fs:=by
 obtain⟨ps,a,b⟩:=h
 exact⟨ps,Dat.cp e a,Paired.mapP b λ_ _ z=>z.dat e⟩
def TMat(K:PySem.W.Frag)(H:Hp)(P:Addr)(rows:List (List Fra)):Prop:=∃qs:List Addr,SqT K H P (qs.map V.ref)/\Paired (λq r=>RowAt K H (.tup q) r) qs rows
theorem TMat.dat{K:PySem.W.Frag}{H H':Hp}{P:Addr}{rows:List (List Fra)}(e:Dat H H')(h:TMat K H P rows):TMat K H' P rows:=by
 obtain⟨cs,a,b⟩:=h
 exact⟨cs,Dat.tup e a,Paired.mapP b λ_ _ z=>z.dat e⟩
theorem z0k{α β γ:Type}{F:γ->β->Prop}{g:α->γ}:∀{l₁:List α} {l₂:List β},Paired (λa b=>F (g a) b) l₁ l₂->Paired F (l₁.map g) l₂
 |_,_,.nil=>.nil
 |_,_,.cons r t=>.cons r (z0k t)
theorem TMat.mat{K:PySem.W.Frag}{H:Hp}{P:Addr}{rows:List (List Fra)}(h:TMat K H P rows):MatAt K H (.tup P) rows:=by
 obtain⟨qs,a,b⟩:=h
 refine⟨qs.map Cp.tup,?_,z0k b⟩
 rw[List.map_map]
 exact a
theorem cp_len{K:PySem.W.Frag}{H:Hp}{c:Cp}{xs:List V}(h:c.at K H xs)(hx:∀x,c≠ .txt x):LenV K c.val H xs.length:=by
 cases c with
 |lst a=>exact .inl ⟨_,h,rfl⟩
 |tup a=>exact .inr ⟨_,h,rfl⟩
 |txt x=>exact absurd rfl (hx x)
theorem RowAt.len{K:PySem.W.Frag}{H:Hp}{c:Cp}{fs:List Fra}(h:RowAt K H c fs)(hx:∀x,c≠ .txt x):LenV K c.val H fs.length:=by
 obtain⟨ps,a,b⟩:=h
 have z:=cp_len a hx
 rw[List.length_map,Paired.len b]at z
 exact z
def q2g(n:Nat):Bool:=(decide ((32:Int)<=(n:Int))&&decide ((n:Int)<=126))&& !inV (.int n) [.int 34,.int 37,.int 45]
def Signs(x:Str):Prop:=0<x.cps.size/\x.cps.size<=100/\(∀c∈x.cps.toList,q2g c=true)/\x.cps.toList.Nodup
theorem q8t{x:Str}(h:x.cps.toList.Nodup){i j a b:Nat}(hi:x.cps[i]? =some a)(hj:x.cps[j]? =some b)(hij:i≠j):a≠b:=by
 intro z
 subst z
 rw[←Array.getElem?_toList]at hi hj
 exact hij ((List.getElem?_inj (List.getElem?_eq_some_iff.mp hi).1 h).mp (hi.trans hj.symm))
theorem met_any(val:Nat->Str)(k:Str):∀i,(met val i).any (·==k)=true->∃j,j<i/\val j=k
 | 0,h=>by rw[z5v]at h;cases h
 |i+1,h=>by
  rw[q9t,z0z,Bool.or_eq_true]at h
  rcases h with h|h
  ·obtain⟨j,h1,h2⟩:=met_any val k i h
   exact⟨j,by omega,h2⟩
  ·exact⟨i,by omega,(of_decide_eq_true h).symm⟩
theorem met_full{val:Nat->Str}{n:Nat}(h:∀i j,i<n->j<n->i≠j->val i≠val j):∀i,i<=n->(met val i).length=i
 | 0,_=>by rw[z5v];rfl
 |i+1,hi=>by
  rw[q9t,q7x]
  have e:¬((met val i).any (·==val i)=true):=λz=>by
   obtain⟨j,h1,h2⟩:=met_any val _ i z
   exact h j i (by omega) (by omega) (by omega) h2
  rw[if_neg e,met_full h i (by omega)]
theorem met_signs{x:Str}(h:x.cps.toList.Nodup):(met (q6o x) x.cps.size).length=x.cps.size:=by
 refine met_full (n:=x.cps.size) (λi j hi hj hij z=>?_) _ (Nat.le_refl _)
 unfold q6o at z
 have e1:x.cps[i]? =some (x.cps.getD i 0):=by simp[hi]
 have e2:x.cps[j]? =some (x.cps.getD j 0):=by simp[hj]
 refine q8t h e1 e2 hij ?_
 have z2: #[x.cps.getD i 0]= #[x.cps.getD j 0]:=congrArg Str.cps z
 simpa using z2
def spIsSign:Sp:=λvs H Q _=>∃c:Nat,vs=[.str ⟨#[c]⟩]/\Q (.bl (q2g c)) H
def z0g:Sp:=λvs H Q _=>∃x:Str,vs=[.str x]/\x.cps.size<=1000/\∀H',Same H H'->Q (.bl (x.cps.toList.all q2g)) H'
def z0x:Sp:=λvs H Q _=>∃x:Str,vs=[.str x]/\Signs x/\∀H',Same H H'->Q .non H'
def NoTxt(c:Cp):Prop:=∀x,c≠ .txt x
def MatN(K:PySem.W.Frag)(H:Hp)(c:Cp)(rows:List (List Fra)):Prop:=NoTxt c/\∃cs:List Cp,(∀d∈cs,NoTxt d)/\c.at K H (cs.map Cp.val)/\Paired (RowAt K H) cs rows
theorem MatN.dat{K:PySem.W.Frag}{H H':Hp}{c:Cp}{rows:List (List Fra)}(e:Dat H H')(h:MatN K H c rows):MatN K H' c rows:=by
 obtain⟨n,cs,m,a,b⟩:=h
 exact⟨n,cs,m,Dat.cp e a,Paired.mapP b λ_ _ z=>z.dat e⟩
def Sqr(n:Nat)(rows:List (List Fra)):Prop:=rows.length=n/\∀r∈rows,r.length=n
def q8n(K:PySem.W.Frag):Sp:=λvs H Q _=>∃(x:Str) (c:Cp) (rows:List (List Fra)),vs=[.str x,c.val]/\MatN K H c rows/\x.cps.size<=100/\Sqr x.cps.size rows/\Q .non H
def At2(rows:List (List Fra))(i j:Nat)(f:Fra):Prop:=∃r,rows[i]? =some r/\r[j]? =some f
def z1m(a b:Nat):List Key:=[.inr ⟨#[a]⟩,.inr ⟨#[b]⟩]
def CostOk(kvs:List (List Key×V))(x:Str)(rows:List (List Fra))(u:Int):Prop :=
 ∀i j a b f,x.cps[i]? =some a->x.cps[j]? =some b->At2 rows i j f->q7n kvs (z1m a b)=some (.int (f.1*(u / f.2)))
def Sm(i:Int):Prop:=i.natAbs<2 ^ 200
def Bu(i:Int):Prop:=i.natAbs<=2 ^ 4380
theorem Sm.bg{i:Int}(h:Sm i):Bg i:=Nat.lt_of_lt_of_le h (Nat.pow_le_pow_right (by decide) (by decide))
theorem Bu.bg{i:Int}(h:Bu i):Bg i:=Nat.lt_of_le_of_lt h (Nat.pow_lt_pow_right (by decide) (by decide))
def OkB(u:Int)(f:Fra):Prop:=OkF f/\Sm f.1/\Bu (u / f.2)
def spCosts(K:PySem.W.Frag):Sp:=λvs H Q _=>∃(x:Str) (P:Addr) (u:Int) (rows:List (List Fra)),vs=[.str x,.ref P,.int u]/\TMat K H P rows/\x.cps.size<=100/\x.cps.toList.Nodup/\Sqr x.cps.size rows/\(∀r∈rows,∀f∈r,OkB u f) ∧
 ∀d H' kvs,Same H H'->H d=none->H' d=some (.dT kvs)->CostOk kvs x rows u->Q (.ref d) H'
def q6j(x:Str)(P o m:Addr)(u:Int)(d:Addr×Addr):List (Str×V) :=
 q1b "costs" (.ref d.1) (q1b "unit" (.int u) (q1b "factors" (.ref d.2) (q1b "more" (.ref m) (q1b "opening" (.ref o) (q1b "pairs" (.ref P) (q1b "signs" (.str x) []))))))
theorem flds6_signs{x:Str}{P o m:Addr}{u:Int}{d:Addr×Addr}:(q6j x P o m u d).lookup ("signs" :Str)=some (.str x):=by
 unfold q6j
 rw[q0f,if_neg (by decide +kernel),q0f,if_neg (by decide +kernel),q0f,if_neg (by decide +kernel),q0f,if_neg (by decide +kernel),q0f,if_neg (by decide +kernel),q0f,if_neg (by decide +kernel),q0f,if_pos rfl]
theorem z6b{x:Str}{P o m:Addr}{u:Int}{d:Addr×Addr}:(q6j x P o m u d).lookup ("opening" :Str)=some (.ref o):=by
 unfold q6j
 rw[q0f,if_neg (by decide +kernel),q0f,if_neg (by decide +kernel),q0f,if_neg (by decide +kernel),q0f,if_neg (by decide +kernel),q0f,if_pos rfl]
theorem flds6_more{x:Str}{P o m:Addr}{u:Int}{d:Addr×Addr}:(q6j x P o m u d).lookup ("more" :Str)=some (.ref m):=by
 unfold q6j
 rw[q0f,if_neg (by decide +kernel),q0f,if_neg (by decide +kernel),q0f,if_neg (by decide +kernel),q0f,if_pos rfl]
theorem z6c{x:Str}{P o m:Addr}{u:Int}{d:Addr×Addr}:(q6j x P o m u d).lookup ("factors" :Str)=some (.ref d.2):=by
 unfold q6j
 rw[q0f,if_neg (by decide +kernel),q0f,if_neg (by decide +kernel),q0f,if_pos rfl]
theorem z4m{x:Str}{P o m:Addr}{u:Int}{d:Addr×Addr}:(q6j x P o m u d).lookup ("unit" :Str)=some (.int u):=by
 unfold q6j
 rw[q0f,if_neg (by decide +kernel),q0f,if_pos rfl]
theorem flds6_costs{x:Str}{P o m:Addr}{u:Int}{d:Addr×Addr}:(q6j x P o m u d).lookup ("costs" :Str)=some (.ref d.1):=by
 unfold q6j
 rw[q0f,if_pos rfl]
def flds(x:Str)(P o m:Addr)(u:Int)(d:Addr×Addr)(ou mu:Int):List (Str×V) :=
 q1b "more_units" (.int mu) (q1b "opening_units" (.int ou) (q6j x P o m u d))
theorem z6a {x:Str} {P o m:Addr} {u:Int} {d:Addr×Addr} {ou mu:Int} {f:Str} (h1:¬f= "more_units") (h2:¬f= "opening_units"):(flds x P o m u d ou mu).lookup f=(q6j x P o m u d).lookup f:=by
 unfold flds
 rw[q0f,if_neg h1,q0f,if_neg h2]
theorem z4l{x:Str}{P o m:Addr}{u:Int}{d:Addr×Addr}{ou mu:Int}:(flds x P o m u d ou mu).lookup ("signs" :Str)=some (.str x):=(z6a (by decide +kernel) (by decide +kernel)).trans flds6_signs
theorem q7z{x:Str}{P o m:Addr}{u:Int}{d:Addr×Addr}{ou mu:Int}:(flds x P o m u d ou mu).lookup ("factors" :Str)=some (.ref d.2):=(z6a (by decide +kernel) (by decide +kernel)).trans z6c
theorem flds_costs{x:Str}{P o m:Addr}{u:Int}{d:Addr×Addr}{ou mu:Int}:(flds x P o m u d ou mu).lookup ("costs" :Str)=some (.ref d.1):=(z6a (by decide +kernel) (by decide +kernel)).trans flds6_costs
theorem q9z {x:Str} {P o m:Addr} {u:Int} {d:Addr×Addr} {v:V} {f:Str} (h2:¬f= "opening_units"):(q1b "opening_units" v (q6j x P o m u d)).lookup f=(q6j x P o m u d).lookup f:=by
 rw[q0f,if_neg h2]
theorem z3d{x:Str}{P o m:Addr}{u:Int}{d:Addr×Addr}{ou mu:Int}:(flds x P o m u d ou mu).lookup ("more_units" :Str)=some (.int mu):=by
 unfold flds
 rw[q0f,if_pos rfl]
theorem mk_pairs{x:Str}{P o m:Addr}:(q1b "more" (.ref m) (q1b "opening" (.ref o) (q1b "pairs" (.ref P) (q1b "signs" (.str x) []))):List (Str×V)).lookup ("pairs" :Str)=some (.ref P):=by
 rw[q0f,if_neg (by decide +kernel),q0f,if_neg (by decide +kernel),q0f,if_pos rfl]
theorem mk_opening{x:Str}{P o m:Addr}:(q1b "more" (.ref m) (q1b "opening" (.ref o) (q1b "pairs" (.ref P) (q1b "signs" (.str x) []))):List (Str×V)).lookup ("opening" :Str)=some (.ref o):=by
 rw[q0f,if_neg (by decide +kernel),q0f,if_pos rfl]
theorem mk_more{x:Str}{P o m:Addr}:(q1b "more" (.ref m) (q1b "opening" (.ref o) (q1b "pairs" (.ref P) (q1b "signs" (.str x) []))):List (Str×V)).lookup ("more" :Str)=some (.ref m):=by
 rw[q0f,if_pos rfl]
theorem mk_factors{x:Str}{P o m fl:Addr}:(q1b "factors" (.ref fl) (q1b "more" (.ref m) (q1b "opening" (.ref o) (q1b "pairs" (.ref P) (q1b "signs" (.str x) [])))):List (Str×V)).lookup ("factors" :Str)=some (.ref fl):=by
 rw[q0f,if_pos rfl]
theorem mk_signs{x:Str}{P o m fl:Addr}{u:Int}:(q1b "unit" (.int u) (q1b "factors" (.ref fl) (q1b "more" (.ref m) (q1b "opening" (.ref o) (q1b "pairs" (.ref P) (q1b "signs" (.str x) []))))):List (Str×V)).lookup ("signs" :Str)=some (.str x):=by
 rw[q0f,if_neg (by decide +kernel),q0f,if_neg (by decide +kernel),q0f,if_neg (by decide +kernel),q0f,if_neg (by decide +kernel),q0f,if_neg (by decide +kernel),q0f,if_pos rfl]
theorem mk_pairs2{x:Str}{P o m fl:Addr}{u:Int}:(q1b "unit" (.int u) (q1b "factors" (.ref fl) (q1b "more" (.ref m) (q1b "opening" (.ref o) (q1b "pairs" (.ref P) (q1b "signs" (.str x) []))))):List (Str×V)).lookup ("pairs" :Str)=some (.ref P):=by
 rw[q0f,if_neg (by decide +kernel),q0f,if_neg (by decide +kernel),q0f,if_neg (by decide +kernel),q0f,if_neg (by decide +kernel),q0f,if_pos rfl]
theorem mk_unit{x:Str}{P o m fl:Addr}{u:Int}:(q1b "unit" (.int u) (q1b "factors" (.ref fl) (q1b "more" (.ref m) (q1b "opening" (.ref o) (q1b "pairs" (.ref P) (q1b "signs" (.str x) []))))):List (Str×V)).lookup ("unit" :Str)=some (.int u):=by
 rw[q0f,if_pos rfl]
theorem q0j{f:Str}{v:V}{fs:List (Str×V)}{n:Nat}(h:fs.length<=n):(q1b f v fs).length<=n+1:=by
 have:=q9a f v fs
 omega
structure PrAt(K:PySem.W.Frag)(C:Addr)(H:Hp)(x:Addr)(sg:Str)(rows:List (List Fra))(fo fm:Fra):Prop where
 sig:Signs sg
 sqr:Sqr sg.cps.size rows
 ok:∀r∈rows,∀f∈r,OkB (q0s fo.2 fm.2 rows) f
 oko:OkB (q0s fo.2 fm.2 rows) fo
 okm:OkB (q0s fo.2 fm.2 rows) fm
 pos:0<q0s fo.2 fm.2 rows
 big:Bu (q0s fo.2 fm.2 rows)
 ob:∃dx P o m,∃d:Addr×Addr,∃kvs,H x=some (.ins C dx (flds sg P o m (q0s fo.2 fm.2 rows) d (fo.1*(q0s fo.2 fm.2 rows / fo.2)) (fm.1*(q0s fo.2 fm.2 rows / fm.2))))/\TMat K H P rows/\FrAt K H o fo/\FrAt K H m fm/\H d.1=some (.dT kvs)/\CostOk kvs sg rows (q0s fo.2 fm.2 rows) ∧
  ∃fs:List Int,(∀f∈fs,q8s f)/\prodI fs=q0s fo.2 fm.2 rows/\H d.2=some (.lst (fs.map V.int))
theorem PrAt.same{K:PySem.W.Frag}{C:Addr}{H H':Hp}{x:Addr}{sg:Str}{rows:List (List Fra)}{fo fm:Fra}(e:Same H H')(h:PrAt K C H x sg rows fo fm):PrAt K C H' x sg rows fo fm:=by
 obtain⟨a,b,c,d,f,g,i,dx,P,o,m,dd,kvs,h1,h2,h3,h4,h5,h6,fs,h7,h8,h9⟩:=h
 exact⟨a,b,c,d,f,g,i,dx,P,o,m,dd,kvs,e _ _ h1,h2.dat (Dat.of e),h3.same e,h4.same e,e _ _ h5,h6,fs,h7,h8,e _ _ h9⟩
def NotFac(H:Hp)(x c:Addr):Prop:=∀C dx fs,H x=some (.ins C dx fs)->fs.lookup ("factors" :Str)≠some (.ref c)
def OkH(f:Fra):Prop:=OkF f/\Sm f.1
def loR(rows:List (List Fra)):List (List Fra):=rows.map λr=>r.map loF
def spInit(K:PySem.W.Frag)(C:Addr):Sp:=λvs H Q _=>∃(x dx o m:Addr) (sg:Str) (c:Cp) (rows:List (List Fra)) (fo fm:Fra),vs=[.ref x,.str sg,c.val,.ref o,.ref m]/\H x=some (.ins C dx [])/\Signs sg/\sg.cps.size<=12 ∧
 MatN K H c rows/\Sqr sg.cps.size rows/\(∀r∈rows,∀f∈r,OkH f)/\FrAt K H o fo/\OkH fo/\FrAt K H m fm/\OkH fm ∧
 ∀H',PrAt K C H' x sg (loR rows) (loF fo) (loF fm)->(∀b u,H b=some u->b≠x->H' b=some u)->(∀c,H c≠none->NotFac H' x c)->Q .non H'
def q8d(K:PySem.W.Frag)(C:Addr):Sp:=λvs H Q _=>∃(x:Addr) (sg:Str) (rows:List (List Fra)) (fo fm:Fra) (i j a b:Nat) (f:Fra),vs=[.ref x,.str ⟨#[a]⟩,.str ⟨#[b]⟩]/\PrAt K C H x sg rows fo fm ∧
 sg.cps[i]? =some a/\sg.cps[j]? =some b/\At2 rows i j f/\∀H',Same H H'->Q (.int (f.1*(q0s fo.2 fm.2 rows / f.2))) H'
def spMore(K:PySem.W.Frag)(C:Addr):Sp:=λvs H Q _=>∃(x:Addr) (sg:Str) (rows:List (List Fra)) (fo fm:Fra),vs=[.ref x]/\PrAt K C H x sg rows fo fm/\Q (.int (fm.1*(q0s fo.2 fm.2 rows / fm.2))) H
end GP
namespace GP
open PySem L2 GwM
theorem q7m{α β:Type}{l:List α}{g:α->β}{i:Nat}{y:β}(h:(l.map g)[i]? =some y):∃x,l[i]? =some x/\y=g x:=by
 rw[List.getElem?_map]at h
 cases e:l[i]? with
 |none=>rw[e]at h;cases h
 |some x=>rw[e]at h;exact⟨x,rfl,(Option.some.inj h).symm⟩
def CostTo(kvs:List (List Key×V))(x:Str)(rows:List (List Fra))(u:Int)(n m:Nat):Prop :=
 ∀i j a b f,(i<n\/(i=n/\j<m))->x.cps[i]? =some a->x.cps[j]? =some b->At2 rows i j f->q7n kvs (z1m a b)=some (.int (f.1*(u / f.2)))
theorem CostTo.nil(x:Str)(rows:List (List Fra))(u:Int):CostTo [] x rows u 0 0:=λi j a b f h=>by omega
theorem keyOf_inj{a b c d:Nat}(h:z1m a b=z1m c d):a=c/\b=d:=by
 unfold z1m at h
 have h1:=(List.cons.inj h).1
 have h2:=(List.cons.inj (List.cons.inj h).2).1
 have e1:(⟨#[a]⟩:Str)=⟨#[c]⟩:=Sum.inr.inj h1
 have e2:(⟨#[b]⟩:Str)=⟨#[d]⟩:=Sum.inr.inj h2
 have z1: #[a]= #[c]:=congrArg Str.cps e1
 have z2: #[b]= #[d]:=congrArg Str.cps e2
 exact⟨by simpa using z1,by simpa using z2⟩
theorem CostTo.put{kvs:List (List Key×V)}{x:Str}{rows:List (List Fra)}{u:Int}{n m a b:Nat}{f:Fra}(nd:x.cps.toList.Nodup)(h:CostTo kvs x rows u n m)(ha:x.cps[n]? =some a)(hb:x.cps[m]? =some b)(hf:At2 rows n m f):
  CostTo (putK kvs (z1m a b) (.int (f.1*(u / f.2)))) x rows u n (m+1):=by
 intro i j c d g hij hc hd hg
 rw[z1n]
 by_cases e:i=n/\j=m
 ·obtain⟨rfl,rfl⟩:=e
  rw[ha]at hc
  rw[hb]at hd
  cases hc
  cases hd
  obtain⟨r,r1,r2⟩:=hf
  obtain⟨r',r3,r4⟩:=hg
  rw[r1]at r3
  cases r3
  rw[r2]at r4
  cases r4
  rw[if_pos rfl]
 ·have hne:¬z1m c d=z1m a b:=λz=>by
   obtain⟨z1,z2⟩:=keyOf_inj z
   subst z1 z2
   refine e ⟨?_,?_⟩
   ·exact Decidable.byContradiction λq=>q8t nd hc ha q rfl
   ·exact Decidable.byContradiction λq=>q8t nd hd hb q rfl
  rw[if_neg hne]
  exact h i j c d g (by omega) hc hd hg
theorem CostTo.row{kvs:List (List Key×V)}{x:Str}{rows:List (List Fra)}{u:Int}{n m:Nat}(hm:x.cps.size<=m)(h:CostTo kvs x rows u n m):CostTo kvs x rows u (n+1) 0:=by
 intro i j a b f hij ha hb hf
 refine h i j a b f ?_ ha hb hf
 have:j<x.cps.size:=by
  rw[←Array.getElem?_toList]at hb
  have:=(List.getElem?_eq_some_iff.mp hb).1
  simpa using this
 omega
theorem CostTo.all{kvs:List (List Key×V)}{x:Str}{rows:List (List Fra)}{u:Int}{n:Nat}(hn:x.cps.size<=n)(h:CostTo kvs x rows u n 0):CostOk kvs x rows u:=by
 intro i j a b f ha hb hf
 refine h i j a b f (.inl ?_) ha hb hf
 have:i<x.cps.size:=by
  rw[←Array.getElem?_toList]at ha
  have:=(List.getElem?_eq_some_iff.mp ha).1
  simpa using this
 omega
theorem lm_pos{a b:Int}(ha:0<a)(hb:0<b):0<lm a b:=by
 have h:=z0o a hb
 have:=Int.ediv_pos_of_pos_of_dvd ha (Int.le_of_lt h) (Int.gcd_dvd_left a b)
 exact Int.mul_pos this hb
theorem z0s(a g:Int):(a / g).natAbs<=a.natAbs:=Int.natAbs_ediv_le_natAbs a g
theorem lm_abs(a b:Int):(lm a b).natAbs<=a.natAbs*b.natAbs:=by
 unfold lm
 rw[Int.natAbs_mul]
 exact Nat.mul_le_mul_right _ (z0s a _)
theorem fold_pos:∀(l:List Int) {u:Int},0<u->(∀b∈l,0<b)->0<l.foldl lm u
 |[],_,h,_=>h
 |b::l,_,h,hb=>fold_pos l (lm_pos h (hb b List.mem_cons_self)) λc hc=>hb c (List.mem_cons_of_mem _ hc)
theorem fold_abs{B:Nat}:∀(l:List Int) {u:Int},(∀b∈l,b.natAbs<=B)->(l.foldl lm u).natAbs<=u.natAbs*B ^ l.length
 |[],_,_=>by simp
 |b::l,u,h=>by
  have h1:=fold_abs (B:=B) l (u:=lm u b) λc hc=>h c (List.mem_cons_of_mem _ hc)
  have h2:=lm_abs u b
  have h3:=h b List.mem_cons_self
  show(l.foldl lm (lm u b)).natAbs<=_
  refine Nat.le_trans h1 ?_
  rw[List.length_cons,Nat.pow_succ,Nat.mul_comm (B ^ l.length) B,←Nat.mul_assoc]
  exact Nat.mul_le_mul_right _ (Nat.le_trans h2 (Nat.mul_le_mul_left _ h3))
theorem z6d{n:Nat}:∀{rows:List (List Fra)},(∀r∈rows,r.length=n)->rows.flatten.length=rows.length*n
 |[],_=>by simp
 |r::rows,h=>by
  rw[List.flatten_cons,List.length_append,h r List.mem_cons_self,z6d λr' hr=>h r' (List.mem_cons_of_mem _ hr),List.length_cons,Nat.succ_mul,Nat.add_comm]
theorem OkF.abs{f:Fra}(h:OkF f):f.2.natAbs<=2 ^ 30:=by
 obtain⟨h1,h2⟩:=h
 have:(2:Nat) ^ 30=1073741824:=by decide
 omega
theorem unit_pos{rows:List (List Fra)}{fo fm:Fra}(ho:OkF fo)(hm:OkF fm)(h:∀r∈rows,∀f∈r,OkF f):0<q0s fo.2 fm.2 rows:=by
 refine fold_pos _ (lm_pos (by have:=ho.1;omega) (by have:=hm.1;omega)) λb hb=>?_
 obtain⟨f,hf,rfl⟩:=List.mem_map.mp hb
 obtain⟨r,hr,hfr⟩:=List.mem_flatten.mp hf
 have:=(h r hr f hfr).1
 omega
theorem unit_big{n:Nat}{rows:List (List Fra)}{fo fm:Fra}(hn:n<=12)(hs:Sqr n rows)(ho:OkF fo)(hm:OkF fm)(h:∀r∈rows,∀f∈r,OkF f):Bu (q0s fo.2 fm.2 rows):=by
 have h1:(q0s fo.2 fm.2 rows).natAbs<=(lm fo.2 fm.2).natAbs*(2 ^ 30) ^ (rows.flatten.map (·.2)).length:=by
  refine fold_abs _ λb hb=>?_
  obtain⟨f,hf,rfl⟩:=List.mem_map.mp hb
  obtain⟨r,hr,hfr⟩:=List.mem_flatten.mp hf
  exact(h r hr f hfr).abs
 have h2:(lm fo.2 fm.2).natAbs<=2 ^ 30*2 ^ 30:=Nat.le_trans (lm_abs _ _) (Nat.mul_le_mul ho.abs hm.abs)
 have h3:(rows.flatten.map (·.2)).length<=144:=by
  rw[List.length_map,z6d hs.2,hs.1]
  exact Nat.le_trans (Nat.mul_le_mul hn hn) (by decide)
 have h4:(2 ^ 30:Nat) ^ (rows.flatten.map (·.2)).length<=(2 ^ 30) ^ 144:=Nat.pow_le_pow_right (by decide) h3
 have h5:(2 ^ 30:Nat)*2 ^ 30*(2 ^ 30) ^ 144<=2 ^ 4380:=by
  rw[←Nat.pow_mul,←Nat.pow_add,←Nat.pow_add]
  exact Nat.pow_le_pow_right (by decide) (by decide)
 exact Nat.le_trans h1 (Nat.le_trans (Nat.mul_le_mul h2 h4) h5)
theorem z1a{f:Fra}(h:OkF f):OkF (loF f):=by
 obtain⟨h1,h2⟩:=h
 have h0:0<f.2:=by omega
 have p:=lo_pos f.1 h0
 have l:=lo_le f.1 h0
 exact⟨by show 1<=(lo f.1 f.2).2;omega,by show(lo f.1 f.2).2<_;omega⟩
theorem loF_big{f:Fra}(h:Sm f.1):Sm (loF f).1:=Nat.lt_of_le_of_lt (z0s _ _) h
theorem Bu.div{u:Int}(h:Bu u)(g:Int):Bu (u / g):=Nat.le_trans (z0s _ _) h
theorem loR_sqr{n:Nat}{rows:List (List Fra)}(h:Sqr n rows):Sqr n (loR rows):=by
 refine⟨by unfold loR;rw[List.length_map];exact h.1,λr hr=>?_⟩
 obtain⟨r',h',rfl⟩:=List.mem_map.mp hr
 rw[List.length_map]
 exact h.2 r' h'
theorem loR_all{p:Fra->Prop}{rows:List (List Fra)}(h:∀r∈rows,∀f∈r,p (loF f)):∀r∈loR rows,∀f∈r,p f:=by
 intro r hr f hf
 obtain⟨r',h',rfl⟩:=List.mem_map.mp hr
 obtain⟨f',hf',rfl⟩:=List.mem_map.mp hf
 exact h r' h' f' hf'
end GP
namespace GP
open PySem L2 GwM
theorem SqT.off{K:PySem.W.Frag}{H:Hp}{l a:Addr}{ys xs:List V}{o:HO}(hl:H l=some (.lst ys))(h:SqT K H a xs):SqT K (L2.upd H l o) a xs:=by
 rcases h with(h|⟨u,h⟩)|h
 ·exact .inl (.inl (by rw[upd_ne (q9r h hl (by intro z;cases z))];exact h))
 ·exact .inl (.inr ⟨u,by rw[upd_ne (q9r h hl (by intro z;cases z))];exact h⟩)
 ·exact .inr h
theorem RowAt.off{K:PySem.W.Frag}{H:Hp}{l q:Addr}{ys:List V}{fs:List Fra}{o:HO}(hl:H l=some (.lst ys))(h:RowAt K H (.tup q) fs):RowAt K (L2.upd H l o) (.tup q) fs:=by
 obtain⟨ps,a,b⟩:=h
 exact⟨ps,SqT.off hl a,Paired.mapP b λ_ _ z=>SqT.off hl z⟩
def Off(x:Addr)(H H':Hp):Prop:=∀b u,H b=some u->b≠x->H' b=some u
theorem Off.of{x:Addr}{H H':Hp}(e:Same H H'):Off x H H':=λb u h _=>e b u h
theorem Off.trans{x:Addr}{H H' H'':Hp}(e:Off x H H')(f:Off x H' H''):Off x H H'':=λb u h n=>f b u (e b u h n) n
theorem Off.set{x:Addr}{H:Hp}{o:HO}:Off x H (L2.upd H x o):=λb u h n=>by rw[upd_ne n];exact h
theorem Off.dat{x C dx:Addr}{fs:List (Str×V)}{H H':Hp}(hx:H x=some (.ins C dx fs))(e:Off x H H'):Dat H H':=λb u n h=>e b u h λz=>by
 subst z
 rw[hx]at h
 cases h
 exact n _ _ _ rfl
theorem pl1{a:Str}{x:V}:(q1b a x []).length<1000:=Nat.lt_of_le_of_lt (q0j (Nat.le_refl 0)) (by decide)
theorem pl2{a b:Str}{x y:V}:(q1b a x (q1b b y [])).length<1000:=Nat.lt_of_le_of_lt (q0j (q0j (Nat.le_refl 0))) (by decide)
theorem pl3{a b c:Str}{x y z:V}:(q1b a x (q1b b y (q1b c z []))).length<1000:=Nat.lt_of_le_of_lt (q0j (q0j (q0j (Nat.le_refl 0)))) (by decide)
theorem pl4{a b c d:Str}{x y z w:V}:(q1b a x (q1b b y (q1b c z (q1b d w [])))).length<1000:=Nat.lt_of_le_of_lt (q0j (q0j (q0j (q0j (Nat.le_refl 0))))) (by decide)
theorem pl5{a b c d e:Str}{x y z w v:V}:(q1b a x (q1b b y (q1b c z (q1b d w (q1b e v []))))).length<1000:=Nat.lt_of_le_of_lt (q0j (q0j (q0j (q0j (q0j (Nat.le_refl 0)))))) (by decide)
theorem pl6{a b c d e g:Str}{x y z w v t:V}:(q1b a x (q1b b y (q1b c z (q1b d w (q1b e v (q1b g t [])))))).length<1000:=Nat.lt_of_le_of_lt (q0j (q0j (q0j (q0j (q0j (q0j (Nat.le_refl 0))))))) (by decide)
theorem pl7{x:Str}{P o m:Addr}{u:Int}{d:Addr×Addr}:(q6j x P o m u d).length<1000:=Nat.lt_of_le_of_lt (q0j (q0j (q0j (q0j (q0j (q0j (q0j (Nat.le_refl 0)))))))) (by decide)
theorem pl8{x:Str}{P o m:Addr}{u:Int}{d:Addr×Addr}{a:Str}{v:V}:(q1b a v (q6j x P o m u d)).length<1000:=Nat.lt_of_le_of_lt (q0j (q0j (q0j (q0j (q0j (q0j (q0j (q0j (Nat.le_refl 0))))))))) (by decide)
end GP
namespace GP
open PySem L2 GwM
end GP
namespace L2
open PySem PySem.Spec PyProof.Rows
def freeB(scope:Scope)(X:Cx):Bool:=scope.names.all λy=>(y.2 != NameKind.free)||(X.env.scope.names.lookup y.1==some NameKind.cell)
def ixB(scope:Scope)(X:Cx)(N:List Str)(nt:Nat)(ix:List Nat):Bool:=(List.range ix.length).all λk=>match N[nt+k]?,ix[k]? with
 |some x,some j=>(X.N[j]? ==some x)&&(scope.names.contains (x,NameKind.free))&&((relabel scope X.env).names.lookup x==some NameKind.cell)
 |_,_=>false
theorem CompSc.freeB{X:Cx}{scope:Scope}{N:List Str}{nt:Nat}{ix:List Nat}(kind:scope.kind= .function)(cell:∀y∈scope.names,y.2= .cell->(y.1,NameKind.free)∉scope.names)
  (names:∀y∈scope.names,y.2= .local->scope.names.lookup y.1=some .local) (hf:L2.freeB scope X=true) (hl:N.length=nt+ix.length) (hx:ixB scope X N nt ix=true) (ok:X.Ok) :
  ∃cl,CompSc X scope cl N (st0 nt ix):=by
 refine CompSc.free kind cell names (λy hy hk=>?_) hl (λk j hj=>?_) ok
 ·have z:=List.all_eq_true.mp hf y hy
  rw[hk]at z
  have z2:X.env.scope.names.lookup y.1=some NameKind.cell:=by simpa using z
  exact z2
 ·have hk:k<ix.length:=(List.getElem?_eq_some_iff.mp hj).1
  have z:=List.all_eq_true.mp hx k (List.mem_range.mpr hk)
  have hn:nt+k<N.length:=by omega
  rw[List.getElem?_eq_getElem hn,hj]at z
  simp only[Bool.and_eq_true]at z
  obtain⟨⟨z1,z2⟩,z3⟩:=z
  exact⟨_,List.getElem?_eq_getElem hn,by simpa using z1,by simpa using z2,by simpa using z3⟩
theorem Kp.set0{r:St}{v:Option V}:Kp (none::r) ((none::r).set 0 v):=λi x e=>by
 cases i with
 |zero=>cases e
 |succ i=>exact e
end L2
namespace GP
open PySem L2 GwM
theorem z5x{K:PySem.W.Frag}{t:Value}:PySem.W.kitOne K t t=some true:=by unfold PySem.W.kitOne;rw[if_pos (by simp)]
theorem kit_int_bool{K:PySem.W.Frag}:PySem.W.kitOne K (.type "int") (.type "bool")=some false:=by kernel_rfl
def Wo(t:Addr)(H:Hp):Hp:=λb=>if b=t then none else H b
theorem Wo.sub{t:Addr}{H:Hp}:Same (Wo t H) H:=λb u h=>by
 unfold Wo at h
 by_cases e:b=t
 ·rw[if_pos e]at h;cases h
 ·rw[if_neg e]at h;exact h
theorem Wo.ne{t:Addr}{H:Hp}{b:Addr}{u:HO}(h:Wo t H b=some u):b≠t:=λe=>by
 unfold Wo at h
 rw[if_pos e]at h;cases h
theorem Wo.in{t:Addr}{H:Hp}{b:Addr}{u:HO}(n:b≠t)(h:H b=some u):Wo t H b=some u:=by
 unfold Wo
 rw[if_neg n];exact h
theorem Wo.free{t:Addr}{H:Hp}{b:Addr}(h:H b=none):Wo t H b=none:=by
 unfold Wo
 split
 ·rfl
 ·exact h
theorem Wo.set{t:Addr}{H:Hp}{o:HO}:Wo t (L2.upd H t o)=Wo t H:=by
 funext b
 unfold Wo
 by_cases e:b=t
 ·rw[if_pos e,if_pos e]
 ·rw[if_neg e,if_neg e,upd_ne e]
theorem Wo.same{t:Addr}{H H':Hp}(e:Same H H'):Same (Wo t H) (Wo t H'):=λb u h=>Wo.in (Wo.ne h) (e b u (Wo.sub b u h))
theorem Wo.upd{t:Addr}{H:Hp}{o:HO}:Same (Wo t H) (L2.upd H t o):=λb u h=>by rw[upd_ne (Wo.ne h)];exact Wo.sub b u h
theorem upd_free{H:Hp}{t r:Addr}{o:HO}(h:L2.upd H t o r=none):H r=none:=by
 by_cases e:r=t
 ·rw[e,upd_same]at h;cases h
 ·rw[upd_ne e]at h;exact h
structure Ctr(K:PySem.W.Frag)(H:Hp)(s t:Addr)(ns:List Int)(k:Int):Prop where
 sq:SqL K (Wo t H) s (ns.map V.int)
 len:ns.length<=63
 at_:H t=some (.lst [.int k])
 k0:0<=k
theorem Ctr.scr{K:PySem.W.Frag}{H:Hp}{s t:Addr}{ns:List Int}{k:Int}(c:Ctr K H s t ns k):SqL K H s (ns.map V.int):=Same.seq Wo.sub c.sq
theorem Ctr.scr'{K:PySem.W.Frag}{H:Hp}{s t:Addr}{ns:List Int}{k:Int}(c:Ctr K H s t ns k)(o:HO):SqL K (L2.upd H t o) s (ns.map V.int):=Same.seq Wo.upd c.sq
theorem Ctr.same{K:PySem.W.Frag}{H H':Hp}{s t:Addr}{ns:List Int}{k:Int}(c:Ctr K H s t ns k)(e:Same H H'):Ctr K H' s t ns k:=⟨Same.seq (Wo.same e) c.sq,c.len,e _ _ c.at_,c.k0⟩
theorem Ctr.step{K:PySem.W.Frag}{H:Hp}{s t:Addr}{ns:List Int}{k k':Int}(c:Ctr K H s t ns k)(h:0<=k'):Ctr K (L2.upd H t (.lst [.int k'])) s t ns k':=⟨by rw[Wo.set];exact c.sq,c.len,upd_same,h⟩
theorem Ctr.off{K:PySem.W.Frag}{H H':Hp}{s t:Addr}{ns:List Int}{k k':Int}(c:Ctr K H s t ns k)(e:Same (Wo t H) (Wo t H'))(h:H' t=some (.lst [.int k']))(h0:0<=k'):Ctr K H' s t ns k':=⟨Same.seq e c.sq,c.len,h,h0⟩
theorem bg_small{c:Int}(h1: -(10 ^ 40)<=c)(h2:c<=10 ^ 40):Sm c:=by
 have h:c.natAbs<=10 ^ 40:=by omega
 have h3:(10:Nat) ^ 40<2 ^ 200:=by decide
 exact Nat.lt_of_le_of_lt h h3
def OkL(f:Fra):Prop:=1<=f.2/\f.2<=999/\Sm f.1
theorem OkL.h{f:Fra}(h:OkL f):OkH f:=⟨⟨h.1,by have:=h.2.1;omega⟩,h.2.2⟩
def spNext(K:PySem.W.Frag):Sp:=λvs H Q _=>∃(s t:Addr) (ns:List Int) (k:Int),vs=[.ref s,.ref t]/\Ctr K H s t ns k/\k<=100000 ∧
 ∀m:Int,0<=m->m<1999999973->Q (.int m) (L2.upd H t (.lst [.int (k+1)]))
def spFrac(K:PySem.W.Frag):Sp:=λvs H Q _=>∃(s t:Addr) (ns:List Int) (k:Int),vs=[.ref s,.ref t]/\Ctr K H s t ns k/\k<=100000 ∧
 ∀(f:Fra) (q:Addr) (H':Hp),OkL f->Same (L2.upd H t (.lst [.int (k+1)])) H'->H q=none->H' q=some (.tup [.int f.1,.int f.2])->Q (.ref q) H'
structure LMat(K:PySem.W.Frag)(H:Hp)(l:Addr)(rs:List Addr)(rows:List (List Fra)):Prop where
 len:rs.length=rows.length
 at_:H l=some (.lst (rs.map V.ref))
 nd:rs.Nodup
 nl:l∉rs
 row:∀(i:Nat) r row,rs[i]? =some r->rows[i]? =some row->∃ps:List Addr,H r=some (.lst (ps.map V.ref))/\Paired (FrAt K H) ps row
theorem LMat.same{K:PySem.W.Frag}{H H':Hp}{l:Addr}{rs:List Addr}{rows:List (List Fra)}(e:Same H H')(h:LMat K H l rs rows):LMat K H' l rs rows :=
 ⟨h.len,e _ _ h.at_,h.nd,h.nl,λi r row h1 h2=>by
  obtain⟨ps,a,b⟩:=h.row i r row h1 h2
  exact⟨ps,e _ _ a,Paired.mapP b λ_ _ z=>z.same e⟩⟩
theorem paired_ix{α β:Type}{F:α->β->Prop}:∀{l₁:List α} {l₂:List β},l₁.length=l₂.length->(∀(i:Nat) x y,l₁[i]? =some x->l₂[i]? =some y->F x y)->Paired F l₁ l₂
 |[],[],_,_=>.nil
 |x::l₁,y::l₂,hl,h=>.cons (h 0 x y rfl rfl) (paired_ix (by simpa using hl) λi a b h1 h2=>h (i+1) a b h1 h2)
theorem LMat.matN{K:PySem.W.Frag}{H:Hp}{l:Addr}{rs:List Addr}{rows:List (List Fra)}(h:LMat K H l rs rows):MatN K H (.lst l) rows:=by
 refine⟨λx z=>(by cases z),rs.map Cp.lst,λd hd x z=>?_,?_,?_⟩
 ·obtain⟨q,_,e⟩:=List.mem_map.mp hd
  rw[←e]at z
  cases z
 ·rw[List.map_map]
  exact SqL.of h.at_
 ·refine z0k (paired_ix h.len λi r row h1 h2=>?_)
  obtain⟨ps,a,b⟩:=h.row i r row h1 h2
  exact⟨ps,SqL.of a,b⟩
def spLaw(K:PySem.W.Frag):Sp:=λvs H Q _=>∃(a:Addr) (ns:List Int),vs=[.ref a]/\SqL K H a (ns.map V.int)/\ns.length<=63/\∀H',Q (.bl true) H'
end GP
namespace L2
open PySem PySem.Spec PyProof.Rows
set_option maxHeartbeats 2000000 in
theorem comp_core{X:Cx}{elt tg iter:Expr}{scope:Scope}{pos pos':Pos}{wi:TI}{g:TG}{te:TE}{N:List Str}{σ0:St->St}(hc:X.calm=true)(hS:X.Ok->∃cl,CompSc X scope cl N σ0)(hi:PI X tg iter wi)
  (hg:∀cl C s H ex pn E,PG (z1d X scope cl C N s H ex pn E) tg g) (he:∀cl C s H ex pn E,PE (z1d X scope cl C N s H ex pn E) elt te) (hs:∀x,foldedSetIterable iter X.env x=pure x)
  {pins:List (Addr×Obj)} {s:Shared} {σ:St} {H:Hp} {Q:VK} {use:Option (Value->Sem Unit)} {QQ:Value->Shared->Prop} (I:Inv X pins σ H s) (h:tComp wi g te σ0 σ H Q)
  (hfin:∀(l C:Addr) (mC:Str->Option Value) (H':Hp) (s':Shared),Inv X pins σ H' s'->FpOk X pins H' C->s'.heap.Ns C mC->Q (.ref l) H'->compPost (model X.prog X.w) X.A X.xe use QQ (.ref l) C (.ok .next) s') :
  wpAny (model X.prog X.w) X.A (comprehension (.ListComp elt [⟨tg,iter,[],0⟩] scope pos) scope X.env pos' (newList []) false (eval iter X.env) use) QQ X.xe s:=by
 obtain⟨cl,S⟩:=hS I.ok
 refine wpAny_comprehension_free (use:=use) rfl hs S.clos S.kind S.names (thn (hi pins s σ H _ I h) λv s1 h1=>thn h1 λitv s2 h2=>?_)
 obtain⟨it,fp,tn,J,H2,e,I2,T,st2,f2,hq⟩:=h2
 subst e
 obtain⟨W,⟨m0,w0⟩,turn⟩:=hq _ I2.fresh
 refine wpAny_newObj_type (comp_env S λcl' h₁ G hns₁ kp=>?_)
 have I3:Inv X pins σ (upd H2 s2.heap.objs.size (.lst [])) { s2 with heap:=s2.heap.push { cls:=.type "list",data:=.seq ([]:List Value).toArray } }:=I2.lnew (t':=s2.toks) .nil (Nat.zero_le _)
 have old23:∀b o,s2.heap.get? b=some o->(s2.heap.push { cls:=.type "list",data:=.seq ([]:List Value).toArray }).get? b=some o:=λb o e=>Heap.get?_push_of_some _ e
 have f3:∀b∈fp,FpOk X pins (upd H2 s2.heap.objs.size (.lst [])) b/\b<(s2.heap.push { cls:=.type "list",data:=.seq ([]:List Value).toArray }).objs.size:=λb hb=>by
  obtain⟨o,ho,_⟩:=T.obj _ _ st2 b hb
  have hlt:=Heap.lt_size ho
  obtain⟨f0,f1⟩:=f2 b hb
  exact⟨⟨by rw[upd_ne (Nat.ne_of_lt hlt)];exact f0,f1⟩,Heap.lt_size (old23 b o ho)⟩
 have st3:tn 0 h₁:=T.keep _ _ _ st2 λb _ o e=>kp b o (old23 b o e)
 generalize hR:(λr s'=>compPost (model X.prog X.w) X.A X.xe use QQ (.ref s2.heap.objs.size) (s2.heap.push { cls:=.type "list",data:=.seq ([]:List Value).toArray }).objs.size r s')=R
 generalize hX':z1d X scope cl' (s2.heap.push { cls:=.type "list",data:=.seq ([]:List Value).toArray }).objs.size N { s2 with heap:=s2.heap.push { cls:=.type "list",data:=.seq ([]:List Value).toArray } }
  (upd H2 s2.heap.objs.size (.lst [])) fp (X.pn++pins) (notedBy (model X.prog X.w) X.A (compEnvC scope cl' (s2.heap.push { cls:=.type "list",data:=.seq ([]:List Value).toArray }).objs.size X.env) λe s'=>R (.error e) s')=X'
 have I4:Inv X' [] (σ0 σ) (upd H2 s2.heap.objs.size (.lst [])) { s2 with heap:=h₁ }:=by
  subst hX'
  exact inv_comp (s:={ s2 with heap:=s2.heap.push { cls:=.type "list",data:=.seq ([]:List Value).toArray } }) S G I3 f3 kp hns₁ s2.toks
 have PG':PG X' tg g:=by subst hX';exact hg _ _ _ _ _ _ _
 have PE':PE X' elt te:=by subst hX';exact he _ _ _ _ _ _ _
 have stat:∀{H':Hp},(∀b∈fp,H' b=none)->∀b∈fp,FpOk X' [] H' b:=λhn b hb=>by
  subst hX'
  obtain⟨⟨_,f1,fn,_,f4,f5⟩,lt⟩:=f3 b hb
  refine⟨hn b hb,Nat.ne_of_lt lt,λz=>?_,.inl hb,λx c e=>(G.look x c e).elim (λz=>Nat.ne_of_gt (Nat.lt_trans lt z.1)) λz=>f4 x c (S.sub x c z),λp hp=>f5 p ?_⟩
  ·rcases List.mem_cons.mp (I3.stkSub b z)with q|q
   ·exact f1 q
   ·exact fn q
  ·rcases List.mem_append.mp hp with z|z
   ·exact z
   ·cases z
 have hp1:X'.prog=X.prog:=by subst hX';rfl
 have hp2:X'.w=X.w:=by subst hX';rfl
 have hp3:X'.K=X.K:=by subst hX';rfl
 have hp4:X'.calm=true:=by subst hX';exact hc
 have hp5:X'.A=X.A:=by subst hX';rfl
 have hp6:X'.env=compEnvC scope cl' (s2.heap.push { cls:=.type "list",data:=.seq ([]:List Value).toArray }).objs.size X.env:=by subst hX';rfl
 have hp7:X'.xe=notedBy (model X.prog X.w) X.A X'.env λe s'=>R (.error e) s':=by subst hX';rfl
 have fin:∀{H':Hp} {s':Shared},Inv X' [] (σ0 σ) H' s'->Q (.ref s2.heap.objs.size) H'->R (.ok .next) s':=by
  intro H' s' I5 q
  subst hR
  obtain⟨mC,hnC,_⟩:=I5.loc
  rw[hp6]at hnC
  have hok:HOk X.prog X.w H' s'.heap:=by
   have z:=I5.hok
   rw[hp1,hp2]at z
   exact z
  have u:Un (frs X.stack) fp (upd H2 s2.heap.objs.size (.lst [])) H' (s2.heap.push { cls:=.type "list",data:=.seq ([]:List Value).toArray }) s'.heap:=by
   have z:=I5.base
   subst hX'
   exact z
  have hC:H' (s2.heap.push { cls:=.type "list",data:=.seq ([]:List Value).toArray }).objs.size=none:=by
   have zf:=I5.free
   rw[hp6]at zf
   exact zf
  refine hfin _ _ mC H' s' (I3.call' (ch:=fp) (s':=s') (by have z:=I5.os;subst hX';exact z) u hok I5.bare (λb hb=>?_) (by have z:=I5.up;subst hX';exact Nat.le_trans I3.up z)) (I3.fpOk (Nat.le_refl _) hC) hnC q
  obtain⟨⟨_,f1,_,f3',f4,f5⟩,_⟩:=f3 b hb
  exact⟨f3',f1,f4,f5⟩
 have loop:∀s3:Shared,Inv X' [] (σ0 σ) (upd H2 s2.heap.objs.size (.lst [])) s3->tn 0 s3.heap →
   codeAny (model X.prog X.w) X.A (.compLoop (.ListComp elt [⟨tg,iter,[],0⟩] scope pos) 0 (.ref it) (.ref s2.heap.objs.size) X'.env) R s3:=by
  intro s3 J3 t3
  refine codeAny_loop rfl (λn s'=>∃i ys H',Inv X' [] (σ0 σ) H' s'/\tn i s'.heap/\(∀b∈fp,H' b=none)/\W i n ys H') ?_ m0 ⟨0,[],_,J3,t3,λb hb=>(f3 b hb).1.1,w0⟩
  rintro n s4 ⟨i,ys,H4,J4,t4,n4,w4⟩
  show wpAny _ _ ((compTurn (.ListComp elt [⟨tg,iter,[],0⟩] scope pos) 0 (.ref it) (.ref s2.heap.objs.size) X'.env).onRaise (λx=>do noteFrame x X'.env;theTreesLotGoes x)) _ _ s4
  refine wpAny_noted ?_
  rw[compTurn_list1]
  refine wpAny_bind (wpAny_standAt (wpAny_bind ?_))
  rcases turn i n ys H4 w4 with⟨stop,q⟩|⟨go,step⟩
  ·have z:=T.done X' hp1 hp2 hp3 hp4 i [] s4 (σ0 σ) H4 (notedBy (model X.prog X.w) X.A X'.env λe s'=>R (.error e) s') J4 (stat n4) t4 stop
   rw[hp5]at z
   refine wpAny_mono z (λr s5 ⟨hr,J5⟩=>?_) λ_ _ x=>x
   subst hr
   exact wpAny_pure (fin J5 q)
  ·have z:=T.item X' hp1 hp2 hp3 hp4 i [] s4 (σ0 σ) H4 (notedBy (model X.prog X.w) X.A X'.env λe s'=>R (.error e) s') J4 (stat n4) t4 go
   rw[hp5]at z
   refine wpAny_mono z (λr s5 ⟨u,hr,h5⟩=>?_) λ_ _ x=>x
   subst hr
   refine wpAny_bind (wpAny_mono h5 (λ_ s6 ⟨x,H6,J6,r6,y6,t6,n6⟩=>?_) λ_ _ x=>x)
   have J6':=J6.pinned (stat n6) (T.obj _ _ t6)
   have zg:=PG' _ s6 (σ0 σ) H6 x u _ J6' r6 (step x H6 y6)
   rw[hp1,hp2,hp5,hp7]at zg
   refine wpAny_bind (wpAny_mono zg (λ_ s7 ⟨σ7,H7,J7,k7,q7⟩=>?_) λ_ _ x=>x)
   have ze:=PE' _ s7 σ7 H7 _ J7 q7
   rw[hp1,hp2,hp5,hp7]at ze
   refine wpAny_bind (wpAny_bind (wpAny_mono ze (λyv s8 ⟨y,H8,J8,r8,e8,z8,m',hm,w8⟩=>?_) λ_ _ x=>x))
   have za:=q2v (X:=X') _ s8 σ7 H8 (.ref s2.heap.objs.size) [y] (.ref s2.heap.objs.size) [yv] (λ_ H9=>H9=upd H8 s2.heap.objs.size (.lst (ys++[y]))) J8 rfl (.cons r8 .nil) ⟨_,ys,y,rfl,rfl,e8,z8,rfl⟩
   rw[hp1,hp2,hp5,hp7]at za
   refine wpAny_bind (wpAny_mono za (λ_ s9 ⟨_,H9,J9,_,e9⟩=>?_) λ_ _ x=>x)
   subst e9
   refine wpAny_pure (wpAny_pure ⟨rfl,m',hm,i+1,ys++[y],_,?_,?_,?_,w8⟩)
   ·refine J9.unpin.weak ?_ ?_
    ·rw[S.len,J9.len]
     subst hX'
     rfl
    ·exact k7
   ·exact T.keep _ _ _ t6 λb hb o e=>(J9.pin (b,o) (List.mem_append_right _ (List.mem_append_right _ (q8i hb e)))).1
   ·intro b hb
    obtain⟨o,e,d⟩:=T.obj _ _ t6 b hb
    exact(J9.pin (b,o) (List.mem_append_right _ (List.mem_append_right _ (q8i hb e)))).2.1
 have l0:=loop _ I4 st3
 have l1:=codeAny_compStart_list l0 (T.self X.A 0 _ _ _ st3 l0)
 rw[hp6]at l1
 subst hR
 exact l1
theorem q2f{X:Cx}{elt tg iter:Expr}{scope:Scope}{pos:Pos}{wi:TI}{g:TG}{te:TE}{N:List Str}{σ0:St->St}(hc:X.calm=true)(hS:X.Ok->∃cl,CompSc X scope cl N σ0)(hi:PI X tg iter wi)
  (hg:∀cl C s H ex pn E,PG (z1d X scope cl C N s H ex pn E) tg g) (he:∀cl C s H ex pn E,PE (z1d X scope cl C N s H ex pn E) elt te)
  (hs:∀x,foldedSetIterable iter X.env x=pure x:=by intro _;rfl):PE X (.ListComp elt [⟨tg,iter,[],0⟩] scope pos) (tComp wi g te σ0):=by
 intro pins s σ H Q I h
 rw[eval_ListComp]
 refine comp_core (use:=none) (QQ:=EP X pins σ Q) hc hS hi hg he hs I h ?_
 intro l C mC H' s' I' fp hn q
 exact⟨mC,hn,λh' sb=>⟨.ref l,H',I'.moved (ch:=[C]) (t':=s'.toks) (λb o hb e=>(sb.2 b (by simpa using hb)).trans e) (λb hb=>by rw[List.mem_singleton.mp hb];exact fp),rfl,q⟩⟩
theorem q6l{X:Cx}{i:Nat}{y:Str}{py spos:Pos}{elt tg iter:Expr}{scope:Scope}{pos:Pos}{wi:TI}{g:TG}{te:TE}{N:List Str}{σ0:St->St}(hN:X.N.Nodup)(hi:X.N[i]? =some y)(hx:Loc X.env.scope y)
  (hc:X.calm=true) (hS:X.Ok->∃cl,CompSc X scope cl N σ0) (hit:PI X tg iter wi)
  (hg:∀cl C s H ex pn E,PG (z1d X scope cl C N s H ex pn E) tg g) (he:∀cl C s H ex pn E,PE (z1d X scope cl C N s H ex pn E) elt te)
  (hsw:swapsWith (.ListComp elt [⟨tg,iter,[],0⟩] scope pos) (some (.Name y py)) spos.line X.env=pure true:=by rfl)
  (hf:X.fn y=true\/X.env.scope.names.lookup y=some .local:=by first|exact .inl rfl|exact .inr rfl|assumption)
  (hs:∀x,foldedSetIterable iter X.env x=pure x:=by intro _;rfl):PS X (.Assign [.Name y py] (.ListComp elt [⟨tg,iter,[],0⟩] scope pos) spos) (tAsg (tComp wi g te σ0) (gName i)):=by
 intro pins s σ H D I h
 rw[exec_Assign_Name_used _ _ _ _ hsw]
 refine wpAny_bind (wpAny_standAt (wpAny_bind ?_))
 show wpAny _ X.A (do let _ ←comprehension (.ListComp elt [⟨tg,iter,[],0⟩] scope pos) scope X.env _ (newList []) false (eval iter X.env) (some (assign (.Name y py) X.env))) _ _ s
 refine wpAny_bind (wpAny_mono (comp_core (use:=some (assign (.Name y py) X.env)) (QQ:=λ_ s'=>SP X pins D .next s') hc hS hit hg he hs I h ?_) (λ_ s' hq=>wpAny_pure (wpAny_pure hq)) λ_ _ e=>e)
 intro l C mC H' s' I' fp hn q
 show wpAny _ X.A (assign (.Name y py) X.env (.ref l)) _ _ _
 refine wpAny_assign_Name (store_ok2 I' hN hi hx (v:=.ref l) rfl (λs2 I2 sb=>?_) hf)
 obtain⟨a,sb,ha⟩:=sb
 have nC:C≠a:=by
  obtain⟨_,f1,_,_,f4,_⟩:=fp
  rcases ha with z|z
  ·rw[z];exact f1
  ·exact λe=>f4 y a z e.symm
 refine⟨mC,hn.sameBut sb nC,λh' sb2=>?_⟩
 refine⟨_,H',I2.moved (ch:=[C]) (t':=s2.toks) (λb o hb e=>(sb2.2 b (by simpa using hb)).trans e) (λb hb=>?_),q⟩
 rw[List.mem_singleton.mp hb]
 exact fp
end L2
namespace L2
open PySem PySem.Spec PyProof.Rows
theorem ix_tupK{X:Cx}{K':PySem.W.Frag}(hK:X.K=K'):IxR X (rIxT K'):=by subst hK;exact q3j
theorem ix_listK{X:Cx}{K':PySem.W.Frag}(hK:X.K=K'):IxR X (rIxL K'):=by subst hK;exact q0o
end L2
namespace GP
open PySem L2 GwM
theorem Wo.upd_ne{t q:Addr}{H:Hp}{o:HO}(n:q≠t):Wo t (L2.upd H q o)=L2.upd (Wo t H) q o:=by
 funext b
 by_cases e:b=q
 ·subst e
  rw[L2.upd_same]
  unfold Wo
  rw[if_neg n,L2.upd_same]
 ·rw[L2.upd_ne e]
  unfold Wo
  split
  ·rfl
  ·rw[L2.upd_ne e]
theorem Wo.step{t:Addr}{H H':Hp}{o:HO}(e:Same (L2.upd H t o) H'):Same (Wo t H) (Wo t H'):=by
 have z:=Wo.same (t:=t) e
 rw[Wo.set]at z
 exact z
theorem Wo.back{t r:Addr}{H H':Hp}{o:HO}(e:Same (Wo t H) (Wo t H'))(ht:H' t=some o)(h:H' r=none):H r=none:=by
 cases q:H r with
 |none=>rfl
 |some u =>
  have n:r≠t:=λz=>by rw[z,ht]at h;cases h
  have z:=Wo.sub _ _ (e r u (Wo.in n q))
  rw[h]at z
  cases z
theorem Paired.setP{α β:Type}{F:α->β->Prop}{x:α}{y:β}:∀{l₁:List α} {l₂:List β} (j:Nat),Paired F l₁ l₂->F x y->Paired F (l₁.set j x) (l₂.set j y)
 |_,_,_,.nil,_=>.nil
 |_,_,0,.cons r t,h=>.cons h t
 |_,_,j+1,.cons r t,h=>.cons r (Paired.setP j t h)
theorem LMat.put{K:PySem.W.Frag}{H:Hp}{l r p:Addr}{rs ps:List Addr}{rows:List (List Fra)}{row:List Fra}{i j:Nat}{f:Fra}(h:LMat K H l rs rows)(hr:rs[i]? =some r)(hrow:rows[i]? =some row)
  (hps:H r=some (.lst (ps.map V.ref))) (hp:Paired (FrAt K H) ps row) (hf:FrAt K H p f):LMat K (L2.upd H r (.lst ((ps.map V.ref).set j (.ref p)))) l rs (rows.set i (row.set j f)):=by
 have nlr:l≠r:=λz=>h.nl (z▸List.mem_of_getElem? hr)
 refine⟨by rw[List.length_set];exact h.len,by rw[L2.upd_ne nlr];exact h.at_,h.nd,h.nl,λi' r' row' h1 h2=>?_⟩
 have hi:i<rows.length:=(List.getElem?_eq_some_iff.mp hrow).1
 by_cases e:i=i'
 ·subst e
  rw[hr]at h1
  cases h1
  rw[List.getElem?_set,if_pos rfl,if_pos hi]at h2
  cases h2
  refine⟨ps.set j p,by rw[L2.upd_same,List.map_set],?_⟩
  exact Paired.mapP (Paired.setP j hp hf) λ_ _ z=>SqT.off hps z
 ·rw[List.getElem?_set,if_neg e]at h2
  obtain⟨ps',a,b⟩:=h.row i' r' row' h1 h2
  have n:r'≠r:=λz=>by
   subst z
   exact e ((List.getElem?_inj (List.getElem?_eq_some_iff.mp hr).1 h.nd).mp (hr.trans h1.symm))
  exact⟨ps',by rw[L2.upd_ne n];exact a,Paired.mapP b λ_ _ z=>SqT.off hps z⟩
theorem LMat.snoc{K:PySem.W.Frag}{H H':Hp}{l r:Addr}{rs ps:List Addr}{rows:List (List Fra)}{row:List Fra}(h:LMat K H l rs rows)(e:Same H H')(hr:H r=none)(hps:H' r=some (.lst (ps.map V.ref)))(hp:Paired (FrAt K H') ps row):
  LMat K (L2.upd H' l (.lst (rs.map V.ref++[.ref r]))) l (rs++[r]) (rows++[row]):=by
 have hl':=e _ _ h.at_
 have nlr:r≠l:=λz=>by rw[z,h.at_]at hr;cases hr
 have nin:r∉rs:=λz=>by
  obtain⟨i,hi,ei⟩:=List.getElem_of_mem z
  have hi2:i<rows.length:=by rw[←h.len];exact hi
  obtain⟨ps',a,_⟩:=h.row i r rows[i] (by rw[List.getElem?_eq_getElem hi,ei]) (List.getElem?_eq_getElem hi2)
  rw[hr]at a
  cases a
 refine⟨by rw[List.length_append,List.length_append,h.len];rfl,by rw[L2.upd_same,List.map_append];rfl,?_,?_,λi r' row' h1 h2=>?_⟩
 ·refine List.nodup_append.mpr ⟨h.nd,(by simp),λx hx y hy z=>?_⟩
  rw[List.mem_singleton.mp hy]at z
  exact nin (z▸hx)
 ·intro z
  rcases List.mem_append.mp z with z|z
  ·exact h.nl z
  ·exact nlr (List.mem_singleton.mp z).symm
 ·by_cases q:i<rs.length
  ·rw[List.getElem?_append_left q]at h1
   rw[List.getElem?_append_left (by rw[←h.len];exact q)]at h2
   obtain⟨ps',a,b⟩:=h.row i r' row' h1 h2
   have n:r'≠l:=λz=>h.nl (z▸List.mem_of_getElem? h1)
   exact⟨ps',by rw[L2.upd_ne n];exact e _ _ a,Paired.mapP b λ_ _ z=>SqT.off hl' (z.same e)⟩
  ·have q':rs.length<=i:=Nat.le_of_not_lt q
   rw[List.getElem?_append_right q']at h1
   rw[List.getElem?_append_right (by rw[←h.len];exact q')]at h2
   have z:i-rs.length=0:=by
    have:=(List.getElem?_eq_some_iff.mp h1).1
    simp at this
    omega
   rw[z]at h1
   rw[←h.len,z]at h2
   cases h1
   cases h2
   exact⟨ps,by rw[L2.upd_ne nlr];exact hps,Paired.mapP hp λ_ _ z=>SqT.off hl' z⟩
end GP
namespace GP
open PySem L2 GwM
section
variable{K:PySem.W.Frag}{C:Addr}{H0 H H':Hp}{t l x o m:Addr}{rs:List Addr}{sg:Str}{rows:List (List Fra)}{fo fm:Fra}{k:Int}
end
end GP
namespace L2
open PySem PySem.Spec PyProof.Rows
def KDict(P:Program)(w:World)(K:PySem.W.Frag)(a:Addr)(kvs:List (Key×V)):Prop:=(a==sysModules)=false/\∃vs,KV kvs vs/\∀h:Heap,K.In h->h.DictOf (q3z P w) a vs
def entS(w:World)(x:Str×Tok×Value):DictEntry:=⟨hashStr w x.1,.str x.1 x.2.1,x.2.2⟩
theorem KDict.mk {P:Program} {w:World} {K:PySem.W.Frag} {a:Addr} {ep:Nat} {es:Array DictEntry} (ys:List (Str×Tok×Value)) {vs:List V} (hk:K.lookup a=some { cls:=.type "dict",data:=.dict es ep })
  (he:es.toList=ys.map (entS w)) (hn:(ys.map (·.1)).Nodup) (hv:Vals vs (ys.map (·.2.2))) (hs:(a==sysModules)=false):KDict P w K a ((ys.map (·.1)).zipWith (λx v=>(Sum.inr x,v)) vs):=by
 refine⟨hs,ys.map λy=>(Sum.inr y.1,y.2.2),?_,λh X=>⟨_,es,ep,X a _ hk,⟨rfl,rfl,rfl⟩,rfl,?_,?_,?_⟩⟩
 ·clear hk he hn
  induction ys generalizing vs with
  |nil=>cases hv;exact .nil
  |cons y ys ih =>
   cases hv with
   |cons r t=>exact .cons ⟨rfl,r⟩ (ih t)
 ·intro e hm
  rw[←Array.mem_toList_iff,he]at hm
  obtain⟨y,_,rfl⟩:=List.mem_map.mp hm
  exact⟨Sum.inr y.1,q8z P w _ _,rfl⟩
 ·rw[he]
  clear hk he hn hv
  induction ys with
  |nil=>exact .nil
  |cons y ys ih=>exact .cons (q8z P w _ _) rfl ih
 ·rw[List.map_map]
  have e:((λx:Key×Value=>x.1) ∘ λy:Str×Tok×Value=>((Sum.inr y.1:Key),y.2.2))=(λx:Str=>(Sum.inr x:Key)) ∘ (·.1):=rfl
  rw[e,←List.map_map]
  exact List.Pairwise.map _ (λa b h z=>h (Sum.inr.inj z)) hn
section
variable{X:Cx}
theorem op_notIn_kd:OpR X (compareOp .NotIn) (λx y H Q=>∃a kvs k,y= .ref a/\x=kV k/\KDict X.prog X.w X.K a kvs/\Q (.bl (!(q7n kvs k).isSome)) H):=by
 intro pins s σ H x y v u Q I rx ry h
 obtain⟨a,kvs,k,rfl,rfl,⟨hs,vs,rel,dd⟩,q⟩:=h
 cases ry
 refine wpAny_notIn_of (kV_is rx) hs (dd _ I.kIn).mapOf ?_
 rw[←(rel.val k).isSome_eq]
 exact⟨.bl _,H,I.tok _,rfl,q⟩
def tKGet(P:Program)(w:World)(K:PySem.W.Frag)(td ty:TE):TE:=λσ H Q=>td σ H λx H1=>ty σ H1 λy H2=>∃a kvs k v,x= .ref a/\y=kV k/\KDict P w K a kvs/\q7n kvs k=some v/\Q v H2
theorem pe_kget{o i:Expr}{pos:Pos}{td ty:TE}(ho:PE X o td)(hi:PE X i ty)(hs:NoSl i):PE X (.Subscript o i pos) (tKGet X.prog X.w X.K td ty):=by
 intro pins s σ H Q I h
 refine subD_of PySem.F.slot_dict_getitem.lookup hs (thn (ho pins s σ H _ I h) λu s1 ⟨x,H1,I1,rx,q1⟩=>thn (hi pins s1 σ H1 _ I1 q1) λiv s2 ⟨y,H2,I2,ry,a,kvs,k,v,ex,ey,⟨hd,vs,rel,dd⟩,l,q2⟩=>?_)
 subst ex ey
 obtain rfl:u=Value.ref a:=rx
 obtain⟨w',hw,rw'⟩:=RelO.some_of (v:=v) (o:=valueAt vs k) (by rw[←l];exact rel.val k)
 have d2:=dd _ I2.kIn
 exact⟨d2.typeIs,wpAny_getItem_of (kV_is ry) d2.mapOf hw ⟨v,H2,I2.tok _,rw',q2⟩⟩
end
end L2
namespace GP
open PySem L2 GwM
def TupAt(H:Hp)(q:Addr)(f:Fra):Prop:=H q=some (.tup [.int f.1,.int f.2])
theorem TupAt.fr{K:PySem.W.Frag}{H:Hp}{q:Addr}{f:Fra}(h:TupAt H q f):FrAt K H q f:=SqT.of h
theorem TupAt.off{H:Hp}{q l:Addr}{f:Fra}{ys:List V}{o:HO}(hl:H l=some (.lst ys))(h:TupAt H q f):TupAt (L2.upd H l o) q f:=by
 have n:q≠l:=q9r h hl (by intro z;cases z)
 show L2.upd H l o q=_
 rw[L2.upd_ne n];exact h
def mvOk(c:Nat):Prop:=c=112\/c=97\/c=98
def stp(q:Fra)(c:Nat):Fra:=(q.1+(if c=98 then 0 else 1),q.2+(if c=97 then 0 else 1))
def Of(sg x:Str):Prop:=∀c∈x.cps.toList,c∈sg.cps.toList
theorem cps_lt{x:Str}{i c:Nat}(h:x.cps[i]? =some c):i<x.cps.size:=by
 rw[←Array.getElem?_toList]at h
 have:=(List.getElem?_eq_some_iff.mp h).1
 simpa using this
theorem cps_mem{x:Str}{i c:Nat}(h:x.cps[i]? =some c):c∈x.cps.toList:=by
 rw[←Array.getElem?_toList]at h
 exact List.mem_of_getElem? h
theorem z6e{x:Str}{i c:Nat}(h:x.cps[i]? =some c):x.cps.toList[i]? =some c:=by
 rw[Array.getElem?_toList];exact h
def pcF(sg:Str)(rows:List (List Fra))(u:Int)(a b:Nat):Int :=
 match (rows[sg.cps.toList.idxOf a]?).bind (·[sg.cps.toList.idxOf b]?)with
 |some f=>f.1*(u / f.2)
 |none=>0
theorem pcF_at{sg:Str}{rows:List (List Fra)}{u:Int}{a b:Nat}(sq:Sqr sg.cps.size rows)(ha:a∈sg.cps.toList)(hb:b∈sg.cps.toList):
  ∃i j f,sg.cps[i]? =some a/\sg.cps[j]? =some b/\At2 rows i j f/\pcF sg rows u a b=f.1*(u / f.2):=by
 have hi:=List.idxOf_lt_length_iff.mpr ha
 have hj:=List.idxOf_lt_length_iff.mpr hb
 have ei:sg.cps.toList[sg.cps.toList.idxOf a]? =some a:=by rw[List.getElem?_eq_getElem hi,List.getElem_idxOf hi]
 have ej:sg.cps.toList[sg.cps.toList.idxOf b]? =some b:=by rw[List.getElem?_eq_getElem hj,List.getElem_idxOf hj]
 have hi':sg.cps.toList.idxOf a<rows.length:=by rw[sq.1];simpa using hi
 have hj':sg.cps.toList.idxOf b<(rows[sg.cps.toList.idxOf a]).length:=by rw[sq.2 _ (List.getElem_mem hi')];simpa using hj
 refine⟨_,_,(rows[sg.cps.toList.idxOf a])[sg.cps.toList.idxOf b],by rw[←Array.getElem?_toList];exact ei,by rw[←Array.getElem?_toList];exact ej,⟨_,List.getElem?_eq_getElem hi',List.getElem?_eq_getElem hj'⟩,?_⟩
 unfold pcF
 rw[List.getElem?_eq_getElem hi']
 show(match (rows[sg.cps.toList.idxOf a])[sg.cps.toList.idxOf b]? with|some f=>f.1*(u / f.2)|none=>0)=_
 rw[List.getElem?_eq_getElem hj']
def z4t(K:PySem.W.Frag):Sp:=λvs H Q _=>∃(q:Addr) (c:Nat) (ij:Fra),vs=[.ref q,.str ⟨#[c]⟩]/\FrAt K H q ij/\mvOk c/\∀r,H r=none->Q (.ref r) (L2.upd H r (.tup [.int (stp ij c).1,.int (stp ij c).2]))
end GP
namespace GP
open PySem L2 GwM
theorem SqT.wo{K:PySem.W.Frag}{H:Hp}{t a:Addr}{ys xs:List V}(ht:H t=some (.lst ys))(h:SqT K H a xs):SqT K (Wo t H) a xs:=by
 rcases h with(h|⟨u,h⟩)|h
 ·exact .inl (.inl (Wo.in (q9r h ht (by intro z;cases z)) h))
 ·exact .inl (.inr ⟨u,Wo.in (q9r h ht (by intro z;cases z)) h⟩)
 ·exact .inr h
theorem PrAt.wo{K:PySem.W.Frag}{C:Addr}{H:Hp}{t x:Addr}{ys:List V}{sg:Str}{rows:List (List Fra)}{fo fm:Fra}(ht:H t=some (.lst ys))(nf:NotFac H x t)(h:PrAt K C H x sg rows fo fm):PrAt K C (Wo t H) x sg rows fo fm:=by
 obtain⟨a,b,c,d,f,g,i,dx,P,o,m,dd,kvs,h1,⟨qs,h2,h2'⟩,h3,h4,h5,h6,fs,h7,h8,h9⟩:=h
 have n:dd.2≠t:=λz=>nf _ _ _ h1 (by rw[q7z,z])
 refine⟨a,b,c,d,f,g,i,dx,P,o,m,dd,kvs,Wo.in (q9r h1 ht (by intro z;cases z)) h1,⟨qs,SqT.wo ht h2,Paired.mapP h2' λq r z=>?_⟩,SqT.wo ht h3,SqT.wo ht h4,Wo.in (q9r h5 ht (by intro z;cases z)) h5,h6,fs,h7,h8,Wo.in n h9⟩
 obtain⟨ps,z1,z2⟩:=z
 exact⟨ps,SqT.wo ht z1,Paired.mapP z2 λ_ _ y=>SqT.wo ht y⟩
end GP
namespace L2
open PySem PySem.Spec PyProof.Rows
def ExcN(h:Heap)(φ:Addr->Prop)(ea:Addr)(cls:Value)(od:Option Addr):Prop :=
 φ ea/\∃vs sl,h.get? ea=some ⟨cls,od,.fields vs,sl⟩/\(vs[1]? =some .none ∨
  ∃T oT ts,vs[1]? =some (.ref T)/\T≠ea/\φ T/\h.get? T=some oT/\oT.data= .fields ts/\3<ts.size)
def ExcT(h:Heap)(φ:Addr->Prop)(ea:Addr)(cls:Value)(od:Option Addr):Prop :=
 φ ea/\∃vs sl,h.get? ea=some ⟨cls,od,.fields vs,sl⟩ ∧
  ∃T oT ts,vs[1]? =some (.ref T)/\T≠ea/\φ T/\h.get? T=some oT/\oT.data= .fields ts/\3<ts.size
theorem ExcT.n{h:Heap}{φ:Addr->Prop}{ea:Addr}{cls:Value}{od:Option Addr}(x:ExcT h φ ea cls od):ExcN h φ ea cls od:=by
 obtain⟨p,vs,sl,e,t⟩:=x
 exact⟨p,vs,sl,e,.inr t⟩
theorem ExcN.to{h:Heap}{φ ψ:Addr->Prop}{ea:Addr}{cls:Value}{od:Option Addr}(x:ExcN h φ ea cls od)(m:∀b,φ b->ψ b):ExcN h ψ ea cls od:=by
 obtain⟨p,vs,sl,e,t⟩:=x
 refine⟨m _ p,vs,sl,e,?_⟩
 rcases t with t|⟨T,oT,ts,a,b,c,d⟩
 ·exact .inl t
 ·exact .inr ⟨T,oT,ts,a,b,m _ c,d⟩
structure Noted(fr:List Addr)(φ:Addr->Prop)(h h':Heap):Prop where
 keep:∀b o,h.get? b=some o->¬ φ b->b∉fr->h'.get? b=some o
 slot:∀b o,h.get? b=some o->¬ φ b->∃sl,h'.get? b=some { o with slots:=sl }
 there:∀b o,h.get? b=some o->∃o',h'.get? b=some o'
 size:h.objs.size<=h'.objs.size
theorem Noted.refl{fr:List Addr}{φ:Addr->Prop}{h:Heap}:Noted fr φ h h:=⟨λ_ _ e _ _=>e,λ_ o e _=>⟨o.slots,e⟩,λ_ o e=>⟨o,e⟩,Nat.le_refl _⟩
theorem Noted.trans{fr:List Addr}{φ:Addr->Prop}{h h1 h2:Heap}(a:Noted fr φ h h1)(b:Noted fr φ h1 h2):Noted fr φ h h2 where
 keep:=λc o e n f=>b.keep c o (a.keep c o e n f) n f
 slot:=λc o e n=>by
  obtain⟨sl,e1⟩:=a.slot c o e n
  obtain⟨sl',e2⟩:=b.slot c _ e1 n
  exact⟨sl',e2⟩
 there:=λc o e=>by
  obtain⟨o',e1⟩:=a.there c o e
  exact b.there c o' e1
 size:=Nat.le_trans a.size b.size
section
variable{M:Model}{A:Around}{E:Value->Shared->Prop}{s:Shared}{base:Heap}{env e0:Env}{r:List Env}{L ea:Addr}{φ:Addr->Prop}{cls:Value}{od:Option Addr}
theorem frameOf_top{Q:Value->Shared->Prop}(hs:A.frames=some (e0::r))(hl:s.heap.FunFrames base (e0::r))(h0:e0.frame=some L)(he:env.frame=some L)
  (h:∀h',Heap.SlotsOnly ((e0::r).filterMap (·.frame)) s.heap h'->Q (.ref L) { s with heap:=h' }):wpAny M A (PySem.frameOf env) Q E s:=by
 unfold PySem.frameOf
 refine wpAny_bind (wpAny_frameEnvs hs ?_)
 rw[show((e0::r).dropWhile λx=>x.frame != env.frame)=e0::r by simp[List.dropWhile,h0,he]]
 unfold frameObject
 refine wpAny_bind (wpAny_bind (wpAny_readyFrames_fun hl λh1 k1=>wpAny_pure ?_))
 rw[h0]
 exact wpAny_pure (h h1 k1)
theorem entry_exc{vs:Array Value}{sl:Array (Option Value)}{head:Value}{hadNext:Bool}{Q:Unit->Shared->Prop}(hs:A.frames=some (e0::r))(hl:s.heap.FunFrames base (e0::r))(h0:e0.frame=some L)(hf:env.frame=some L)
  (pe:φ ea) (he:s.heap.get? ea=some ⟨cls,od,.fields vs,sl⟩) (h1:1<vs.size) (new:∀b,s.heap.objs.size<=b->φ b)
  (q:∀h',Noted (frs (e0::r)) φ s.heap h'->ExcT h' φ ea cls od->Q () { s with heap:=h' }) :
  wpAny M A (do let a ←PySem.frameOf env;let pl ←entryPlaceOf L hadNext;let b ←EntryCells.newEntry head a .none (rawInt L) .none pl;setField (.ref ea) 1 b) Q E s:=by
 have nfr:ea∉(e0::r).filterMap (·.frame):=λhm=>by
  obtain⟨_,o,ho,nf⟩:=hl.mem hm
  rw[he]at ho
  cases ho
  exact nf vs rfl
 refine wpAny_bind (frameOf_top hs hl h0 hf λg k=>?_)
 refine wpAny_bind (wpAny_entryPlaceOf λpl pk=>?_)
 simp only[EntryCells.newEntry,newFields]
 refine wpAny_bind (wpAny_newObj_type ?_ (pk.sizeOk5 _ _ _ _ _))
 have e1:g.get? ea=some ⟨cls,od,.fields vs,sl⟩:=(k.2.1 ea nfr).trans he
 have ne:g.objs.size≠ea:=Nat.ne_of_gt (Heap.lt_size e1)
 generalize hob:({ cls:=.type "traceback",dict:=none,data:=.fields ([head,.ref L,.none,rawInt L,.none]++(if pl.isEmpty then List.replicate 6 Value.none else pl)).toArray }:Obj)=ob
 have e2:=Heap.get?_push_of_some (h:=g) ob e1
 refine wpAny_setField e2 rfl h1 (q _ ⟨λb o e n f=>?_,λb o e n=>?_,λb o e=>?_,?_⟩ ⟨pe,_,sl,Heap.get?_update_self _ e2 rfl,g.objs.size,ob,_,?_,ne,new _ (Nat.le_of_eq k.1.symm),?_,by subst hob;rfl,?_⟩)
 ·have be:b≠ea:=λz=>n (z▸pe)
  rw[Heap.get?_update_other _ _ (Ne.symm be)]
  exact Heap.get?_push_of_some _ ((k.2.1 b f).trans e)
 ·have be:b≠ea:=λz=>n (z▸pe)
  obtain⟨sl',e'⟩:=k.2.2 b o e
  refine⟨sl',?_⟩
  rw[Heap.get?_update_other _ _ (Ne.symm be)]
  exact Heap.get?_push_of_some _ e'
 ·by_cases be:b=ea
  ·subst be
   exact⟨_,Heap.get?_update_self _ e2 rfl⟩
  ·obtain⟨sl',e'⟩:=k.2.2 b o e
   exact⟨{ o with slots:=sl' },(Heap.get?_update_other _ _ (Ne.symm be)).trans (Heap.get?_push_of_some _ e')⟩
 ·rw[Heap.size_after_update,Heap.size_push,k.1]
  exact Nat.le_succ _
 ·simp[h1]
 ·rw[Heap.get?_update_other _ _ (Ne.symm ne)]
  exact Heap.get?_push_size _ (by subst hob;rfl)
 ·rw[List.size_toArray,List.length_append]
  exact Nat.lt_of_lt_of_le (by decide:3<5) (Nat.le_add_right _ _)
theorem note_exc{Q:Unit->Shared->Prop}(hs:A.frames=some (e0::r))(hl:s.heap.FunFrames base (e0::r))(h0:e0.frame=some L)(hf:env.frame=some L)
  (x:ExcN s.heap φ ea cls od) (new:∀b,s.heap.objs.size<=b->φ b) (q:∀h',Noted (frs (e0::r)) φ s.heap h'->ExcT h' φ ea cls od->Q () { s with heap:=h' }) :
  wpAny M A (noteFrame (.ref ea) env) Q E s:=by
 obtain⟨pe,vs,sl,he,hv⟩:=x
 unfold noteFrame
 simp only[hf]
 rcases hv with h1|⟨T,oT,ts,h1,ne,pT,hT,hd,h3⟩
 ·refine wpAny_bind (wpAny_field he rfl h1 ?_)
  rw[if_neg (by decide)]
  exact entry_exc hs hl h0 hf pe he (Array.getElem?_eq_some_iff.mp h1).1 new q
 ·have g3:ts[3]? =some ts[3]:=Array.getElem?_eq_getElem h3
  refine wpAny_bind (wpAny_field he rfl h1 ?_)
  rw[if_pos (show(Value.ref T != Value.none)=true by simp)]
  refine wpAny_bind (wpAny_field hT hd g3 ?_)
  by_cases e3:(ts[3]==rawInt L)=true
  ·rw[if_pos e3]
   exact wpAny_pure (q s.heap Noted.refl ⟨pe,vs,sl,he,T,oT,ts,h1,ne,pT,hT,hd,h3⟩)
  ·rw[if_neg e3]
   refine wpAny_bind (wpAny_setField hT hd h3 ?_)
   have other:∀b,b≠T->(s.heap.update T (Obj.mapFields (·.setIfInBounds 3 Value.none))).get? b=s.heap.get? b:=λb z=>Heap.get?_update_other _ _ (Ne.symm z)
   have n1:Noted (frs (e0::r)) φ s.heap (s.heap.update T (Obj.mapFields (·.setIfInBounds 3 Value.none))):=by
    refine⟨λb o e n f=>(other b λz=>n (z▸pT)).trans e,λb o e n=>⟨o.slots,(other b λz=>n (z▸pT)).trans e⟩,λb o e=>?_,Nat.le_of_eq (Heap.size_after_update ..).symm⟩
    by_cases z:b=T
    ·subst z
     exact⟨_,Heap.get?_update_self _ hT (Obj.isFreed_of_fields (Obj.data_mapFields hd _))⟩
    ·exact⟨o,(other b z).trans e⟩
   refine entry_exc (s:={ s with heap:=s.heap.update T (Obj.mapFields (·.setIfInBounds 3 Value.none)) }) hs (hl.of_keeps λb o e nf=>⟨o,(other b λz=>?_).trans e,rfl⟩) h0 hf pe ((other ea (Ne.symm ne)).trans he) (Array.getElem?_eq_some_iff.mp h1).1
    (λb hb=>new b (Nat.le_trans n1.size hb)) λh' n2 x2=>q h' (n1.trans n2) x2
   subst z
   rw[hT]at e
   cases e
   exact nf ts hd
theorem z0p{fl:Option Addr}{fr:List Addr}{Q:Unit->Shared->Prop}(x:ExcT s.heap φ ea cls od)(q:∀h',Noted fr φ s.heap h'->ExcT h' φ ea cls od->Q () { s with heap:=h' }):
  wpAny M A (setFlight (.ref ea) fl) Q E s:=by
 obtain⟨pe,vs,sl,he,T,oT,ts,h1,ne,pT,hT,hd,h3⟩:=x
 unfold setFlight
 refine wpAny_bind (wpAny_field he rfl h1 ?_)
 rw[if_pos (show(Value.ref T != Value.none)=true by simp)]
 have other:∀(f:Obj->Obj) b,b≠T->(s.heap.update T f).get? b=s.heap.get? b:=λf b z=>Heap.get?_update_other _ _ (Ne.symm z)
 refine wpAny_setField hT hd h3 (q _ ⟨λb o e n f=>(other _ b λz=>n (z▸pT)).trans e,λb o e n=>⟨o.slots,(other _ b λz=>n (z▸pT)).trans e⟩,λb o e=>?_,Nat.le_of_eq (Heap.size_after_update ..).symm⟩
  ⟨pe,vs,sl,(other _ ea (Ne.symm ne)).trans he,T,_,_,h1,ne,pT,Heap.get?_update_self _ hT (Obj.isFreed_of_fields (Obj.data_mapFields hd _)),Obj.data_mapFields hd _,by simp[h3]⟩)
 by_cases z:b=T
 ·subst z
  exact⟨_,Heap.get?_update_self _ hT (Obj.isFreed_of_fields (Obj.data_mapFields hd _))⟩
 ·exact⟨o,(other _ b z).trans e⟩
end
end L2
namespace L2
open PySem PySem.Spec PyProof.Rows
section
variable{X:Cx}{pins:List (Addr×Obj)}{σ:St}{H H':Hp}{s:Shared}
def XOk(X:Cx)(pins:List (Addr×Obj))(H:Hp)(b:Addr):Prop :=
 H b=none/\b≠X.env.locals/\b∉X.fs/\(X.s₀.heap.get? b=none\/b∈X.ex)/\(∀x c,X.env.cells.lookup x=some c->c≠b)/\∀p∈X.pn++pins,p.1≠b
theorem Inv.xok{b:Addr}(I:Inv X pins σ H s)(hn:s.heap.get? b=none)(hH:H' b=none):XOk X pins H' b:=by
 refine⟨hH,λz=>?_,λz=>?_,?_,λx c e z=>?_,λp hp z=>?_⟩
 ·obtain⟨m,⟨o,_,_,ho,_⟩,_⟩:=I.loc
  rw[←z,hn]at ho
  cases ho
 ·obtain⟨_,o,ho,_⟩:=I.funs.mem z
  rw[hn]at ho
  cases ho
 ·by_cases hx:b∈X.ex
  ·exact .inr hx
  ·left
   cases q:X.s₀.heap.get? b with
   |none=>rfl
   |some o =>
    obtain⟨o',e⟩:=I.base.there b o q hx
    rw[hn]at e
    cases e
 ·obtain⟨v,o,ho,_⟩:=I.cell x c e
  rw[z,hn]at ho
  cases ho
 ·have q:=(I.pin p hp).1
  rw[z,hn]at q
  cases q
theorem Inv.xnew{b:Addr}(I:Inv X pins σ H s)(hb:s.heap.objs.size<=b):XOk X pins H b:=I.xok (Heap.get?_none_of_le hb) (I.hok.fresh hb)
theorem Un.noted{fs fr ex:List Addr}{H₀:Hp}{h₀ h h':Heap}{φ:Addr->Prop}(u:Un fs ex H₀ H h₀ h)(n:Noted fr φ h h')(new:∀b o,h₀.get? b=some o->b∉ex->¬ φ b)(hf:∀b o,h₀.get? b=some o->b∈fr->b∈fs):Un fs ex H₀ H h₀ h' where
 keep:=λb o e hn nf nx=>n.keep b o (u.keep b o e hn nf nx) (new b o e nx) λz=>nf (hf b o e z)
 slot:=λb o e hn hb nx=>by
  obtain⟨sl,e1⟩:=u.slot b o e hn hb nx
  obtain⟨sl',e2⟩:=n.slot b _ e1 (new b o e nx)
  exact⟨sl',e2⟩
 free:=u.free
 there:=λb o e nx=>by
  obtain⟨o',e1⟩:=u.there b o e nx
  exact n.there b o' e1
 tups:=u.tups
 frzs:=u.frzs
 tbls:=u.tbls
theorem HOk.noted{P:Program}{w:World}{h h':Heap}{fr:List Addr}{φ:Addr->Prop}(x:HOk P w H h)(n:Noted fr φ h h')(hφ:∀b,φ b->H b=none)(hf:∀b∈fr,H b=none):HOk P w H h':=λa u e =>
 (x a u e).stay (λb v hb q=>by
  have nb:H b≠none:=λz=>by
   rcases hb with y|y
   ·rw[y,e]at z;cases z
   ·rw[y]at z;cases z
  exact n.keep b v q (λz=>nb (hφ b z)) λz=>nb (hf b z)) (λ_ q=>q) λ_ _ q=>q
theorem Inv.noted{h':Heap}(I:Inv X pins σ H s)(n:Noted (frs X.stack) (XOk X pins H) s.heap h'):Inv X pins σ H { s with heap:=h' }:=by
 have cellK:∀x c,X.env.cells.lookup x=some c->∀v,s.heap.IsCell c v->h'.IsCell c v:=λx c e v ⟨o,ho,hd⟩=>by
  obtain⟨sl,q⟩:=n.slot c o ho λk=>k.2.2.2.2.1 x c e rfl
  exact⟨_,q,hd⟩
 refine⟨I.ok,I.os,I.bare,I.base.noted n (λb o e nx k=>?_) (λb o e z=>?_),?_,λx c e=>?_,I.free,I.freeC,λp hp=>?_,I.hok.noted n (λb k=>k.1) I.stkFree,I.len,I.up⟩
 ·rcases k.2.2.2.1 with z|z
  ·rw[e]at z;cases z
  ·exact nx z
 ·rcases List.mem_cons.mp (I.stkSub b z)with q|q
  ·subst q
   exact absurd (Nat.lt_of_lt_of_le (Heap.lt_size e) I.ok.above) (Nat.lt_irrefl _)
  ·exact q
 ·obtain⟨m,⟨o,es,ep,ho,rr⟩,hl⟩:=I.loc
  obtain⟨sl,q⟩:=n.slot _ o ho λk=>k.2.1 rfl
  refine⟨m,⟨_,es,ep,q,rr⟩,λi x v e1 e2 e3=>?_⟩
  obtain⟨u,rv,l⟩:=hl i x v e1 e2 e3
  refine⟨u,rv,?_⟩
  rcases l with l|⟨k,c,e,z⟩
  ·exact .inl l
  ·exact .inr ⟨k,c,e,cellK x c e _ z⟩
 ·obtain⟨v,z⟩:=I.cell x c e
  exact⟨v,cellK x c e v z⟩
 ·obtain⟨e,hn,ne,nf,d⟩:=I.pin p hp
  refine⟨n.keep p.1 p.2 e (λk=>k.2.2.2.2.2 p hp rfl) λz=>?_,hn,ne,nf,d⟩
  rcases List.mem_cons.mp (I.stkSub _ z)with q|q
  ·exact ne q
  ·exact nf q
end
theorem Un.same{fs ex:List Addr}{H₀ H:Hp}{h₀ h h':Heap}(u:Un fs ex H₀ H h₀ h)(k:∀b o,h₀.get? b=some o->h'.get? b=h.get? b):Un fs ex H₀ H h₀ h' where
 keep:=λb o e hn nf nx=>(k b o e).trans (u.keep b o e hn nf nx)
 slot:=λb o e hn hb nx=>by
  obtain⟨sl,e1⟩:=u.slot b o e hn hb nx
  exact⟨sl,(k b o e).trans e1⟩
 free:=u.free
 there:=λb o e nx=>by
  obtain⟨o',e1⟩:=u.there b o e nx
  exact⟨o',(k b o e).trans e1⟩
 tups:=u.tups
 frzs:=u.frzs
 tbls:=u.tbls
def CXs(P:Program)(w:World):CXT:=λouter H s E e s'=>∃ea cls od H',e= .ref ea/\s'.os=s.os/\AllBare s'.gens/\s.toks<=s'.toks/\Un (frs outer) [] H H' s.heap s'.heap/\HOk P w H' s'.heap ∧
 ExcN s'.heap (λb=>s.heap.get? b=none/\H' b=none) ea cls od/\E cls od H'
def Lets(X:Cx)(E:St->XK):Prop:=∀(pins:List (Addr×Obj)) (σ:St) (H:Hp) (s:Shared) (ea:Addr) (cls:Value) (od:Option Addr),Inv X pins σ H s->ExcN s.heap (XOk X pins H) ea cls od->E σ cls od H->X.xe (.ref ea) s
theorem Lets.pass{X:Cx}{E:St->XK}{pins:List (Addr×Obj)}{σ:St}{H:Hp}{s s':Shared}{e:Value}(L:Lets X E)(I:Inv X pins σ H s)(h:CXs X.prog X.w X.stack H s (E σ) e s'):X.xe e s':=by
 obtain⟨ea,cls,od,H',rfl,os,bare,tt,un,hok,x,hE⟩:=h
 have I2:Inv X pins σ H' s':=I.call' (ch:=[]) os un hok bare (λb z=>nomatch z) (Nat.le_trans I.up tt)
 exact L pins σ H' s' ea cls od I2 (x.to λb k=>I.xok k.1 k.2) hE
theorem Lets.passes{X:Cx}{E:XK}(L:Lets X λ_=>E):z4o (CXs X.prog X.w) X E:=λ_ _ _ _ _ _ I h=>L.pass I h
section
variable{P:Program}{w:World}{K:PySem.W.Frag}{mg:Str->Option Value}{base:Heap}
theorem q5q{N:List Str}{qual:Str}{scope:Scope}{f:Addr}{cd:Value}{A:Around}{outer:List Env}{s:Shared}{H:Hp}{E:XK}:Lets (cxOf (CXs P w) P w K mg base N qual scope f cd A outer s H E) λ_=>E:=by
 intro pins σ H' s' ea cls od I x hE
 show wpAny _ _ (leaving _ (.ref ea)) _ _ s'
 unfold leaving
 refine wpAny_bind (note_exc I.ok.frames I.stack rfl rfl x (λb hb=>I.xnew hb) λh1 n1 x1=>?_)
 refine z0p (fr:=frs (cxOf (CXs P w) P w K mg base N qual scope f cd A outer s H E).stack) x1 λh2 n2 x2=>?_
 have I2:=I.noted (n1.trans n2)
 refine⟨ea,cls,od,H',rfl,I2.os,I2.bare,I2.up,I2.base,I2.hok,x2.n.to λb k=>⟨?_,k.1⟩,hE⟩
 rcases k.2.2.2.1 with z|z
 ·exact z
 ·exact nomatch z
theorem q3q{N:List Str}{qual:Str}{scope:Scope}{f:Addr}{cd:Value}{A:Around}{outer:List Env}{s:Shared}{H:Hp}{E:XK}:
  PassesOwn (model P w) (cxOf (CXs P w) P w K mg base N qual scope f cd A outer s H E).A (cxOf (CXs P w) P w K mg base N qual scope f cd A outer s H E).env (cxOf (CXs P w) P w K mg base N qual scope f cd A outer s H E).xe:=PassesOwn.leaving
theorem Fun.okX{x qual:Str}{st:Stmt}{f:Addr}{fd:FuncData}{N ps:List Str}{k:Nat}{sp:Sp}(F:Fun K x qual st f fd)(S:q0k N ps (q0g st))(len:∀vs H Q E,sp vs H Q E->vs.length=ps.length)
  (hbody:∀(cdv:Value) (A:Around) (outer:List Env) (s:Shared) (H:Hp) (vs:List V) (Q:VK) (E:XK),Room k (A.deeper (envOfC qual (q0g st) s.heap.objs.size f cdv))->sp vs H Q E →
   ∃t,PSs (cxOf (CXs P w) P w K mg base N qual (q0g st) f cdv A outer s H E) (q3a st) t/\t { nx:=λ_ H'=>Q .non H',rt:=Q } (z4q N vs) H):FnOk P w K mg base (CXs P w) (k+1) f fd ps sp:=by
 obtain⟨oc,od,kV,doc,pm,an,cdv,ct,osl,rfl,lk,hcd⟩:=F.ex
 exact fn_of lk hcd S len λA outer s H vs Q E hr hsp=>hbody cdv A outer s H vs Q E hr hsp
end
theorem ObjOk.got{P:Program}{w:World}{H:Hp}{h:Heap}{a:Addr}{o:HO}(x:ObjOk P w H h a o):h.get? a≠none:=by
 cases o with
 |lst xs=>obtain⟨_,_,_,_,e⟩:=x;rw[e];exact λz=>nomatch z
 |tup xs=>obtain⟨_,_,_,ob,e,_⟩:=x;rw[e];exact λz=>nomatch z
 |dK kvs=>obtain⟨_,_,_,_,o,_,_,e,_⟩:=x;rw[e];exact λz=>nomatch z
 |dT kvs=>obtain⟨_,_,_,_,o,_,_,e,_⟩:=x;rw[e];exact λz=>nomatch z
 |set S n=>obtain⟨o,_,_,_,e,_⟩:=x;rw[e];exact λz=>nomatch z
 |ins C dx fs=>obtain⟨_,_,_,e,_⟩:=x;rw[e];exact λz=>nomatch z
 |own y=>obtain⟨_,e⟩:=x;rw[e];exact λz=>nomatch z
 |xd fs=>obtain⟨_,⟨_,_,_,e,_⟩,_⟩:=x;rw[e];exact λz=>nomatch z
 |rng lo hi=>obtain⟨_,_,_,e⟩:=x;rw[e];exact λz=>nomatch z
 |frz ob u=>obtain⟨e,_⟩:=x;rw[e];exact λz=>nomatch z
 |tbl ps=>have e:h.get? a=some _:=x;rw[e];exact λz=>nomatch z
 |met f y=>have e:h.get? a=some _:=x;rw[e];exact λz=>nomatch z
 |ext φ=>obtain⟨_,⟨_,e⟩,_⟩:=x;rw[e];exact λz=>nomatch z
theorem HOk.none_of{P:Program}{w:World}{H:Hp}{h:Heap}{a:Addr}(x:HOk P w H h)(e:h.get? a=none):H a=none:=by
 cases q:H a with
 |none=>rfl
 |some o=>exact absurd e (x a o q).got
set_option genInjectivity false in
structure XP where
 nm:Str
 q:Str
 N:Addr
 bs:List Value
 bm:List Value
 hdct:Bool
 sn:List Str
 sub:List Value
 ab:Bool
 col:Option Bool
 dd:Option Addr
 k0:Option Value
 k1:Option Value
 k2:Option Value
 k3:Option Value
 k5:Option Value
 mN:Str->Option Value
abbrev XP.obj(d:XP)(C:Addr)(newId:String):Obj:=excClassObj d.nm d.q C d.N d.bs d.bm d.hdct d.sn d.sub d.ab d.col d.dd d.k0 d.k1 d.k2 d.k3 d.k5 newId
structure XCls(K:PySem.W.Frag)(C:Addr)(Bn B newId inN nid initId:String)(bmN bmB:List Value):Prop where
 fn:ExcBaseFacts Bn newId inN bmN
 has:bmB.contains (.type Bn)=true
 fb:ExcBaseFacts B nid initId bmB
 obj:∀h:Heap,K.In h->∃d:XP,h.get? C=some (d.obj C newId)/\h.Ns d.N d.mN/\d.mN "__init__" =none/\OwnTail h bmB d.bm
def XClsE(K:PySem.W.Frag)(C:Addr):Prop:=∃Bn B newId inN nid initId bmN bmB,XCls K C Bn B newId inN nid initId bmN bmB
theorem xcls_of {K:PySem.W.Frag} {C:Addr} (q:PySem.W.excIn K C [.type "ValueError",.type "Exception",.type "BaseException",.type "object"] "ValueError.__new__" =true):XClsE K C:=by
 refine⟨_,_,_,_,_,_,_,_,PySem.F.excBase_ValueError,PySem.F.excBase_ValueError.hasB,PySem.F.excBase_ValueError,λh k=>?_⟩
 unfold PySem.W.excIn at q
 split at q
 ·rename_i dd cd sl hob
  split at q
  ·rename_i C' bm k0 k1 k2 k3 nn k5 hmr hsl0
   simp only[Bool.and_eq_true,beq_iff_eq,Bool.not_eq_true']at q
   obtain⟨⟨⟨⟨⟨e1,e2⟩,e3⟩,e4⟩,e5⟩,e6⟩:=q
   subst e1 e2
   obtain⟨nm,bs,mro,ns,qn,hd,sn,sub,ab,col,del⟩:=cd
   dsimp only at hmr e3 e5 e6
   subst hmr e3
   have hsl:sl= #[k0,k1,k2,k3,some (.builtin "ValueError.__new__"),k5]:=by
    obtain⟨l⟩:=sl
    simp only at hsl0
    rw[hsl0]
   subst hsl
   exact⟨⟨nm,qn,ns,bs,bm,hd,sn,sub,ab,col,dd,k0,k1,k2,k3,k5,_⟩,k _ _ hob,.of_isNs (PySem.W.isNs_of_in k e5),PySem.W.nsMap_none_of_in k e5 e6,PySem.W.tail_of_in k e4⟩
  ·cases q
 ·cases q
def tRaise(C:Addr)(E:St->XK)(t:TA):TS:=λ_ σ H=>t σ H λvs H1=>vs.length<=sizeLine/\E σ (.ref C) none H1
theorem z1v{X:Cx}{E:St->XK}{C:Addr}{x:Str}{np cpos pos:Pos}{e:Expr}{es:List Expr}{t:TA}(L:Lets X E)(OE:XClsE X.K C)(hc:X.calm=true)
  (hg:Gl X x) (hm:X.mg x=some (.ref C)) (ha:PA X (e::es) t) (hdb:(x==("__debug__" :Str))=false:=by decide) (he:starEach (e::es) X.env=(false,eval e X.env)::starEach es X.env:=by rfl)
  (hpl:(backTo cpos (starEach es X.env)).any (·.1)=false:=by rfl):PS X (.Raise (some (.Call (.Name x np) (e::es) [] cpos)) none pos) (tRaise C E t):=by
 intro pins s σ H D I h
 obtain⟨Bn,B,newId,inN,nid,initId,bmN,bmB,O⟩:=OE
 obtain⟨d,hC,hN,hni,T⟩:=O.obj X.base I.ok.mod.kin
 refine wpAny_Raise_call_subU (C:=C) (nm:=d.nm) (q:=d.q) (N:=d.N) (bs:=d.bs) (bm:=d.bm) (hdct:=d.hdct) (sn:=d.sn) (sub:=d.sub) (ab:=d.ab) (col:=d.col) (dd:=d.dd) (k0:=d.k0) (k1:=d.k1) (k2:=d.k2) (k3:=d.k3) (k5:=d.k5) O.fn O.has O.fb
  (mN:=d.mN) (T.hasType O.fb.hasBase) (I.ok.hd hc) (by rw[he];show(false||(backTo cpos (starEach es X.env)).any (·.1))=false;rw[hpl];rfl) hni (q7f I hg hm ⟨rfl,?_⟩ hdb)
 have z:=ha cpos pins s σ H _ I h
 rw[he]at z ⊢
 refine Calls.evalArgs_plain (thn z λus s2 ⟨vs,H2,I2,r,hl,q2⟩=>⟨rfl,?_,I2.bk _ _ hC,hN.keeps I2.bk,T.keeps I2.bk,λh' ea hm=>?_⟩)
 ·show us.length<=sizeLine
  rw[←r.length]
  exact hl
 ·obtain⟨t',ht,_,_⟩:=hm.there
  exact L pins σ H2 _ ea (.ref C) none (I2.kept (t':=s2.toks) hm.keeps) ⟨I2.xok hm.new (I2.hok.none_of hm.new),_,_,ht,.inl rfl⟩ q2
end L2
namespace L2
open PySem PySem.Spec PyProof.Rows
def Fm(X:Cx):Prop:=∃e0 r L,X.stack=e0::r/\e0.frame=some L/\X.env.frame=some L
theorem fm_nox{CX:CXT}{P:Program}{w:World}{K:PySem.W.Frag}{mg:Str->Option Value}{base:Heap}{N:List Str}{qual:Str}{scope:Scope}{f:Addr}{cd:Value}{A:Around}{outer:List Env}{s:Shared}{H:Hp}{E:XK}:
  Fm (cxOf CX P w K mg base N qual scope f cd A outer s H E).nox:=⟨_,_,_,rfl,rfl,rfl⟩
abbrev Cx.also(X:Cx)(pn:List (Addr×Obj))(xe:Value->Shared->Prop):Cx:={ X with pn:=pn,xe:=xe }
theorem Cx.Ok.also{X:Cx}(ok:X.Ok)(pn:List (Addr×Obj))(xe:Value->Shared->Prop):(X.also pn xe).Ok :=
 ⟨ok.mod,ok.kind,ok.glob,ok.blt,ok.above,ok.inj,ok.has,ok.cab,ok.hd,ok.frames,ok.stk,ok.exf,ok.bs,ok.bsz,ok.noex,ok.exfs,ok.funs,ok.frf,ok.tk⟩
section
variable{X:Cx}{pins ps:List (Addr×Obj)}{σ:St}{H:Hp}{s:Shared}{xe:Value->Shared->Prop}
theorem Inv.also(I:Inv X pins σ H s):Inv (X.also (X.pn++pins) xe) [] σ H s :=
 ⟨I.ok.also _ _,I.os,I.bare,I.base,I.loc,I.cell,I.free,I.freeC,λp hp=>I.pin p (by simpa using hp),I.hok,I.len,I.up⟩
theorem Inv.unalso(ok:X.Ok)(I:Inv (X.also (X.pn++pins) xe) ps σ H s):Inv X pins σ H s :=
 ⟨ok,I.os,I.bare,I.base,I.loc,I.cell,I.free,I.freeC,λp hp=>I.pin p (List.mem_append_left _ hp),I.hok,I.len,I.up⟩
theorem XOk.unalso{b:Addr}(k:XOk (X.also (X.pn++pins) xe) ps H b):XOk X pins H b :=
 ⟨k.1,k.2.1,k.2.2.1,k.2.2.2.1,k.2.2.2.2.1,λp hp=>k.2.2.2.2.2 p (List.mem_append_left _ hp)⟩
theorem ExcT.to{h:Heap}{φ ψ:Addr->Prop}{ea:Addr}{cls:Value}{od:Option Addr}(x:ExcT h φ ea cls od)(m:∀b,φ b->ψ b):ExcT h ψ ea cls od:=by
 obtain⟨p,vs,sl,e,T,oT,ts,a,b,c,d⟩:=x
 exact⟨m _ p,vs,sl,e,T,oT,ts,a,b,m _ c,d⟩
end
abbrev TH:=Value->Option Addr->TS
def PH(X:Cx)(hs:List ExceptHandler)(th:TH):Prop :=
 ∀(pins:List (Addr×Obj)) (s:Shared) (σ:St) (H:Hp) (D:Ends) (ea:Addr) (cls:Value) (od:Option Addr),Inv X pins σ H s->ExcT s.heap (XOk X pins H) ea cls od->th cls od D σ H →
  wpAny (model X.prog X.w) X.A (handleBy (.ref ea) X.env hs) (SP X pins D) X.xe s
def tTry(tb:(St->XK)->TS)(th:TH):TS:=λD σ H=>tb (λσ' cls od H'=>th cls od D σ' H') D σ H
theorem ps_try{X:Cx}{body:List Stmt}{h₀:ExceptHandler}{hs:List ExceptHandler}{pos:Pos}{tb:(St->XK)->TS}{th:TH}(F:Fm X)
  (hb:∀(E:St->XK) (pn:List (Addr×Obj)) (xe:Value->Shared->Prop),Lets (X.also pn xe) E->PassesOwn (model X.prog X.w) X.A X.env xe->PSs (X.also pn xe) body (tb E)) (hh:PH X (h₀::hs) th) :
  PS X (.Try body (h₀::hs) [] [] pos) (tTry tb th):=by
 intro pins s σ H D I h
 obtain⟨e0,r,L,hst,h0,hf⟩:=F
 refine wpAny_Try_except ?_
 generalize hxe:(λe s₁=>wpAny (model X.prog X.w) X.A (noteFrame e X.env) (λ_ s₂=>wpAny (model X.prog X.w) X.A (setFlight e none) (λ_ s₃=>wpAny (model X.prog X.w) X.A (handleBy e X.env (h₀::hs)) (SP X pins D) X.xe s₃) X.xe s₂) X.xe s₁)=xe
 have LX:Lets (X.also (X.pn++pins) xe) λσ' cls od H'=>th cls od D σ' H':=by
  intro ps σ' H' s' ea cls od J x q
  show xe (.ref ea) s'
  subst hxe
  have fr:=J.ok.frames
  have sf:=J.stack
  refine note_exc (s:=s') (e0:=e0) (r:=r) (by rw[←hst];exact fr) (by rw[←hst];exact sf) h0 hf x (λb hb=>J.xnew hb) λh1 n1 x1=>?_
  refine z0p (fr:=frs (e0::r)) x1 λh2 n2 x2=>?_
  have n12:=n1.trans n2
  rw[←hst]at n12
  have J2:=J.noted n12
  exact hh pins _ σ' H' D ea cls od (J2.unalso I.ok) (x2.to λb k=>k.unalso) q
 have po:PassesOwn (model X.prog X.w) X.A X.env xe:=by
  subst hxe
  exact PassesOwn.looking
 refine wpAny_mono (hb _ _ xe LX po [] s σ H D I.also h) (λf s1 q=>?_) λe s1 q=>?_
 ·cases f with
  |next =>
   obtain⟨σ',H',J,q⟩:=q
   exact wpAny_execs_nil ⟨σ',H',J.unalso I.ok,q⟩
  |brk =>
   obtain⟨σ',H',J,q⟩:=q
   exact⟨σ',H',J.unalso I.ok,q⟩
  |cont =>
   obtain⟨σ',H',J,q⟩:=q
   exact⟨σ',H',J.unalso I.ok,q⟩
  |ret u =>
   obtain⟨v,σ',H',J,rv,q⟩:=q
   exact⟨v,σ',H',J.unalso I.ok,rv,q⟩
 ·have q':xe e s1:=q
  subst hxe
  exact q'
abbrev Cx.within(X:Cx)(ea:Addr):Cx:={ X with A:=X.A.mark (some (.ref ea)),calm:=false,xe:=λ_ _=>False }
theorem Cx.Ok.within{X:Cx}(ok:X.Ok)(ea:Addr):(X.within ea).Ok :=
 ⟨ok.mod,ok.kind,ok.glob,ok.blt,ok.above,ok.inj,ok.has,ok.cab,(λz=>nomatch z),ok.frames,ok.stk,ok.exf,ok.bs,ok.bsz,ok.noex,ok.exfs,ok.funs,ok.frf,ok.tk⟩
section
variable{X:Cx}{pins:List (Addr×Obj)}{σ:St}{H:Hp}{s:Shared}{ea:Addr}
theorem Inv.within(I:Inv X pins σ H s)(ea:Addr):Inv (X.within ea) pins σ H s:=⟨I.ok.within ea,I.os,I.bare,I.base,I.loc,I.cell,I.free,I.freeC,I.pin,I.hok,I.len,I.up⟩
theorem Inv.behind(ok:X.Ok)(I:Inv (X.within ea) pins σ H s):Inv X pins σ H s:=⟨ok,I.os,I.bare,I.base,I.loc,I.cell,I.free,I.freeC,I.pin,I.hok,I.len,I.up⟩
end
def exO(ea:Addr)(cls:Value)(od:Option Addr):HO:=.ext λh=>∃vs sl,h.get? ea=some ⟨cls,od,.fields vs,sl⟩
def Ends.un(D:Ends)(i:Nat):Ends:={ nx:=λσ H=>D.nx (σ.set i none) H,rt:=D.rt,bk:=λσ H=>D.bk (σ.set i none) H,ct:=λσ H=>D.ct (σ.set i none) H }
theorem Inv.tracks{X:Cx}{pins:List (Addr×Obj)}{σ:St}{H:Hp}{s:Shared}{a:Addr}{o:HO}(I:Inv X pins σ H s)(k:XOk X pins H a)(new:ObjOk X.prog X.w (upd H a o) s.heap a o):Inv X pins σ (upd H a o) s:=by
 obtain⟨hn,k1,k2,k3,k4,k5⟩:=k
 refine⟨I.ok,I.os,I.bare,⟨I.base.keep,I.base.slot,λb ob q n hx=>?_,I.base.there,λb xs q=>?_,λb ob u q=>?_,λb ps q=>?_⟩,I.loc,I.cell,?_,λx c e=>?_,λp hp=>?_,λb u q=>?_,I.len,I.up⟩
 ·have ne:b≠a:=λz=>by
   rcases k3 with y|y
   ·rw[←z,q]at y;cases y
   ·exact hx (z▸y)
  rw[upd_ne ne]
  exact I.base.free b ob q n hx
 ·have q':=I.base.tups b xs q
  rw[upd_ne (q0x q' hn)];exact q'
 ·have q':=I.base.frzs b ob u q
  rw[upd_ne (q0x q' hn)];exact q'
 ·obtain⟨more,q'⟩:=I.base.tbls b ps q
  exact⟨more,by rw[upd_ne (q0x q' hn)];exact q'⟩
 ·rw[upd_ne (Ne.symm k1)];exact I.free
 ·rw[upd_ne (k4 x c e)];exact I.freeC x c e
 ·obtain⟨e,n,r⟩:=I.pin p hp
  exact⟨e,by rw[upd_ne (k5 p hp)];exact n,r⟩
 ·by_cases hb:b=a
  ·subst hb;rw[upd_same]at q;cases q;exact new
  ·rw[upd_ne hb]at q
   exact(I.hok b u q).stay (λc v _ r=>r) (λc r=>by rw[upd_ne (q0x r hn)];exact r) λc xs r=>by rw[upd_ne (q0x r hn)];exact r
structure XB(K:PySem.W.Frag)(D:Addr):Prop where
 hd:PySem.W.hasDictIn K D=true
 ty:PySem.W.typeIn K (.ref D)=some (.type "type")
 be:PySem.W.mroIn K D (.type "BaseException")=some true
theorem exc_match{M:Model}{A:Around}{E:Value->Shared->Prop}{s:Shared}{K:PySem.W.Frag}{Q:Bool->Shared->Prop}{ea C D:Addr}{o:Obj}{b:Bool}(k:K.In s.heap)(he:s.heap.get? ea=some o)(hc:o.cls= .ref C)
  (h0:PySem.W.subIn K (.ref C) (.ref D)=some b) (h2:XB K D) (q:Q b s):wpAny M A (excMatches (.ref ea) (.ref D)) Q E s:=by
 have h1:PySem.W.kitCls K (.ref C) (.ref D)=some b:=by
  obtain⟨cd,hcd,_⟩:=PySem.W.any_some h2.hd
  show(if((PySem.W.clsIn K D).isSome&&PySem.W.typeIn K (.ref D)==some (.type "type"))=true then PySem.W.subIn K (.ref C) (.ref D)else none)=some b
  rw[if_pos (by rw[hcd,h2.ty];simp)]
  exact h0
 obtain⟨lt,li,ls⟩:=PySem.W.kit_cls (M:=M) k h1
 have lb:=PySem.W.looks_mroIn (M:=M) k h2.be
 have le:PySem.W.Looks M s.heap (typeOf (.ref ea)) (.ref C):=by
  intro A' Q' E' s' kk qq
  unfold typeOf
  exact wpAny_bind (wpAny_loadPart (kk _ _ he) (wpAny_pure (by rw[hc];exact qq)))
 have l0:PySem.W.Looks M s.heap (isInstance (.ref D) (.type "tuple")) false:=lt.andThen (PySem.W.Looks.of_pure tc_notTuple)
 have l1:PySem.W.Looks M s.heap (isExcClass (.ref D)) true:=by
  unfold isExcClass
  exact li.andThen lb
 unfold excMatches
 refine wpAny_bind (l0.here (wpAny_bind ?_))
 simp only[Bool.false_eq_true,if_false]
 refine wpAny_pure ?_
 rw[List.forIn_cons]
 refine wpAny_bind (wpAny_bind (wpAny_bind (l1.here ?_)))
 simp only[Bool.not_true,Bool.false_eq_true,if_false]
 refine wpAny_pure (wpAny_pure ?_)
 refine wpAny_bind (le.here (wpAny_bind ?_))
 rw[List.forIn_cons]
 refine wpAny_bind (wpAny_bind (ls.here ?_))
 cases b with
 |true =>
  simp only[if_true]
  exact wpAny_pure (wpAny_pure (wpAny_pure q))
 |false =>
  simp only[Bool.false_eq_true,if_false]
  exact wpAny_pure (wpAny_pure (wpAny_pure q))
theorem q9s{X:Cx}{pins:List (Addr×Obj)}{σ:St}{H:Hp}{s:Shared}{M:Model}{A:Around}{E:Value->Shared->Prop}{Q:Unit->Shared->Prop}{i:Nat}{n:Str}{pos:Pos}(I:Inv X pins σ H s)(hN:X.N.Nodup)(hi:X.N[i]? =some n)(hl:X.env.scope.names.lookup n=some .local)
  (h:∀s',Inv X pins (σ.set i none) H s'->Q () s'):wpAny M A (do bindName X.env n .none;unbindBehindTheSuite X.env n pos) Q E s:=by
 obtain⟨m,hn,hlk⟩:=I.loc
 refine wpAny_nameGoes_keeps hl hn (by rw[I.ok.kind];rfl) λh' v hn' sb=>h _ ?_
 have cellK:∀x c,X.env.cells.lookup x=some c->∀v,s.heap.IsCell c v->h'.IsCell c v:=λx c e v ⟨o,ho,hd⟩=>⟨o,(sb.2 c (I.cne x c e)).trans ho,hd⟩
 refine⟨I.ok,I.os,I.bare,I.base.same λb o e=>sb.2 b (Nat.ne_of_lt (Nat.lt_of_lt_of_le (Heap.lt_size e) I.ok.above)),⟨_,hn',λj y u e1 e2 e3=>?_⟩,λx c e=>?_,I.free,I.freeC,λp hp=>?_,I.hok.but I.free sb,by rw[List.length_set];exact I.len,Nat.le_succ_of_le I.up⟩
 ·have ji:i≠j:=λz=>by
   subst z
   rw[List.getElem?_set_self (by rw[I.len];exact(List.getElem?_eq_some_iff.mp hi).1)]at e2
   cases e2
  rw[List.getElem?_set_ne ji]at e2
  obtain⟨w,rv,l⟩:=hlk j y u e1 e2 e3
  refine⟨w,rv,?_⟩
  rcases l with⟨k1,k2⟩|⟨k,c,e,z⟩
  ·refine .inl ⟨k1,?_⟩
   have ne:y≠n:=λz=>ji (z5u hN hi (z▸e1))
   show(if y=n then v else m y)=some w
   rw[if_neg ne]
   exact k2
  ·exact .inr ⟨k,c,e,cellK y c e _ z⟩
 ·obtain⟨v,z⟩:=I.cell x c e
  exact⟨v,cellK x c e v z⟩
 ·obtain⟨e,hh,ne,r⟩:=I.pin p hp
  exact⟨(sb.2 _ ne).trans e,hh,ne,r⟩
def tAs(K:PySem.W.Frag)(C:Addr)(i:Nat)(ts:TS)(th:TH):TH:=λcls od D σ H=>∃Ce b,cls= .ref Ce/\PySem.W.subIn K (.ref Ce) (.ref C)=some b ∧
 if b=true then ∀ea,H ea=none->ts (D.un i) (σ.set i (some (.ref ea))) (upd H ea (exO ea cls od))else th cls od D σ H
theorem ph_as{X:Cx}{i:Nat}{n x:Str}{C:Addr}{b₀:Stmt}{suite:List Stmt}{np pos:Pos}{rest:List ExceptHandler}{ts:TS}{th:TH}(hN:X.N.Nodup)(hi:X.N[i]? =some n)(hl:X.env.scope.names.lookup n=some .local)(hg:Gl X x)(hm:X.mg x=some (.ref C))
  (hbe:XB X.K C) (hsu:∀ea,PSs (X.within ea) (b₀::suite) ts) (hr:PH X rest th) (hdb:(x==("__debug__" :Str))=false:=by decide) :
  PH X (.ExceptHandler (some (.Name x np)) (some n) (b₀::suite) pos::rest) (tAs X.K C i ts th):=by
 intro pins s σ H D ea cls od I x h
 obtain⟨Ce,b,rfl,hk,h⟩:=h
 obtain⟨pe,vs,sl,he,hT⟩:=id x
 refine wpAny_handleBy_cons (codeAny_handlers_test (q7f (X:=X.within ea) (I.within ea) hg hm ?_ hdb)) (by intro q;cases q)
 refine exc_match I.kIn he rfl hk hbe ?_
 cases b with
 |false=>exact hr pins s σ H D ea _ od I x h
 |true =>
  refine codeAny_handlers_suite_as ?_
  refine z0p (fr:=frs X.stack) x λh1 n1 x1=>?_
  have I1:=I.noted n1
  obtain⟨pe1,vs1,sl1,he1,_⟩:=id x1
  have I2:Inv X pins σ (upd H ea (exO ea (.ref Ce) od)) { s with heap:=h1 }:=I1.tracks pe1 ⟨⟨vs1,sl1,he1⟩,⟨_,he1⟩,λh1 h2 ⟨v,s',e⟩ k=>⟨v,s',k _ e⟩⟩
  refine z4p (X:=X.within ea) (I2.within ea) hN hi (.inl hl) (v:=.ref ea) rfl (λs2 I3=>?_) (.inr hl)
  have z:=hsu ea pins s2 _ _ (D.un i) I3 (h ea pe1.1)
  refine wpAny_mono z (λf s3 q=>?_) λ_ _ z=>False.elim z
  cases f with
  |next =>
   obtain⟨σ',H',J,q⟩:=q
   exact q9s (J.behind I.ok) hN hi hl λs4 J4=>⟨_,_,J4,q⟩
  |brk =>
   obtain⟨σ',H',J,q⟩:=q
   exact q9s (J.behind I.ok) hN hi hl λs4 J4=>⟨_,_,J4,q⟩
  |cont =>
   obtain⟨σ',H',J,q⟩:=q
   exact q9s (J.behind I.ok) hN hi hl λs4 J4=>⟨_,_,J4,q⟩
  |ret u =>
   obtain⟨v,σ',H',J,rv,q⟩:=q
   exact q9s (J.behind I.ok) hN hi hl λs4 J4=>⟨v,_,_,J4,rv,q⟩
theorem ph_nil{X:Cx}:PH X [] λ_ _ _ _ _=>False:=λ_ _ _ _ _ _ _ _ _ _ h=>False.elim h
def tCallX(sp:Sp)(dvs:List V)(E:St->XK)(t:TA):TE:=λσ H Q=>t σ H λvs H1=>sp (vs++dvs) H1 Q (E σ)
section
variable{X:Cx}{k:Nat}{f C:Addr}{fd:FuncData}{ps:List Str}{sp:Sp}{dvs:List V}{ds:List Value}{E:St->XK}{x:Str}{p pos:Pos}{e:Expr}{es:List Expr}{t:TA}
theorem pe_callX(F:FnOk X.prog X.w X.K X.mg X.base (CXs X.prog X.w) k f fd ps sp)(hr:Room k X.A)(hg:Gl X x)(hm:X.mg x=some (.ref f))(hk:PySem.W.keepIn X.K (.ref f)=true)(hb:Binds X.K fd ps ds)(hd:Vals dvs ds)(LX:Lets X E)
  (ha:PA X (e::es) t) (hdb:(x==("__debug__" :Str))=false:=by decide) (he:starEach (e::es) X.env=(false,eval e X.env)::starEach es X.env:=by rfl) (hpl:(backTo pos (starEach es X.env)).any (·.1)=false:=by rfl) :
  PE X (.Call (.Name x p) (e::es) [] pos) (tCallX sp dvs E t):=by
 intro pins s σ H Q I h
 refine wpAny_Call_Name_kw (q7f I hg hm ?_ hdb)
 refine PySem.W.callWith_K (h₀:=X.base) I.ok.mod.kin hk (thn (ha pos pins s σ H _ I h) λus s1 ⟨vs,H1,I1,r,q⟩=>⟨I1.kIn,?_⟩) he hpl
 have r2:Vals (vs++dvs) (us++ds):=r.append hd
 have hl:(us++ds).length=ps.length:=by rw[←r2.length];exact F.len _ _ _ _ q
 refine wpAny_call (codeAny_mono (F.run X.A X.stack s1 H1 ⟨us,[]⟩ (us++ds) (vs++dvs) Q (E σ) hr I1.env0 (hb s1 us I1.kIn hl) r2 q) λrr s' hq=>?_)
 cases rr with
 |error e=>exact LX.pass I1 hq
 |ok fl =>
  cases fl with
  |ret u=>exact I1.after hq
  |next=>exact False.elim hq
  |brk=>exact False.elim hq
  |cont=>exact False.elim hq
end
end L2
namespace L2
open PySem PySem.Spec PyProof.Rows
end L2
namespace L2
open PySem PySem.Spec PyProof.Rows
section
variable{X:Cx}
abbrev TJ:=St->Hp->Str->(Str->Hp->Prop)->Prop
def PJ(X:Cx)(es:List Expr)(tj:TJ):Prop:=∀(pins:List (Addr×Obj)) (s:Shared) (σ:St) (H:Hp) (acc:Str) (R:Str->Hp->Prop),Inv X pins σ H s->tj σ H acc R →
 Joins (model X.prog X.w) X.A X.xe (evalEach es X.env) acc (λout s1=>out.length<=sizeLine/\∃H1,Inv X pins σ H1 s1/\R out H1) s
theorem pj_nil:PJ X [] (λ_ H acc R=>acc.length<=sizeLine/\R acc H):=λ_ _ _ H _ _ I h=>⟨h.1,H,I,h.2⟩
theorem z5c{e:Expr}{es:List Expr}{te:TE}{tj:TJ}(he:PE X e te)(hr:PJ X es tj)(hx:evalEach (e::es) X.env=eval e X.env::evalEach es X.env:=by rfl):
  PJ X (e::es) (λσ H acc R=>te σ H λv H1=>∃y,v= .str y/\(acc++y).length<=sizeLine/\tj σ H1 (acc++y) R):=by
 intro pins s σ H acc R I h
 rw[hx]
 refine thn (he pins s σ H _ I h) λu s1 ⟨v,H1,I1,r,y,e1,hl,q⟩=>?_
 subst e1
 obtain⟨t,rfl⟩:=r
 exact⟨y,t,rfl,hl,hr pins s1 σ H1 _ R I1 q⟩
theorem joins_imp{M:Model}{A:Around}{E:Value->Shared->Prop}:∀{parts:List (Sem Value)} {acc:Str} {Q Q':Str->Shared->Prop} {s:Shared},Joins M A E parts acc Q s->(∀out s1,Q out s1->Q' out s1)->Joins M A E parts acc Q' s
 |[],_,_,_,_,h,k=>k _ _ h
 |_::_,_,_,_,_,h,k=>thn h λ_ _ ⟨y,t,e,hl,q⟩=>⟨y,t,e,hl,joins_imp q k⟩
theorem pe_join{v₁ v₂:Expr}{rest:List Expr}{pos:Pos}{tj:TJ}(h:PJ X (v₁::v₂::rest) tj):PE X (.JoinedStr (v₁::v₂::rest) pos) (λσ H Q=>tj σ H Str.empty λout H1=>Q (.str out) H1):=by
 intro pins s σ H Q I q
 refine wpAny_JoinedStr (joins_imp (h pins s σ H Str.empty _ I q) λout s1 ⟨hl,H1,I1,q1⟩=>⟨hl,.str out,H1,I1.tok _,⟨_,rfl⟩,q1⟩)
theorem pe_fmt{value:Expr}{pos:Pos}{te:TE}(he:PE X value te):PE X (.FormattedValue value (-1) none pos) (λσ H Q=>te σ H λv H1=>∃i:Int,v= .int i/\i.natAbs.log2<1920/\Q (.str (Str.ofString (toString i))) H1):=by
 intro pins s σ H Q I h
 refine wpAny_FormattedValue_plain (thn (he pins s σ H _ I h) λu s1 ⟨v,H1,I1,r,i,e,hl,q⟩=>?_)
 subst e
 obtain⟨t,rfl⟩:=r
 exact wpAny_formatField_int hl ⟨.str (Str.ofString (toString i)),H1,I1.tok _ (by show s1.toks<=_;omega),⟨_,rfl⟩,q⟩
end
structure XTy(K:PySem.W.Frag)(C:Addr):Prop where
 ga:PySem.W.findIn K (.ref C) "__getattribute__" =some (some (.builtin "BaseException.__getattribute__"))
 gn:PySem.W.findIn K (.ref C) "__getattr__" =some none
 hd:PySem.W.hasDictIn K C=true
 ha:PySem.W.findIn K (.ref C) "__class__" =some (some (.builtin "object.__class__"))
 hn:PySem.W.specialIn K (.builtin "object.__class__") "__get__" =some (some (.builtin "getset_descriptor.__get__"))
 htk:PySem.W.takesIn K (.builtin "object.__class__")=some true
 hm:PySem.W.mroIn K C (.type "object")=some true
 hb:PySem.W.mroIn K C (.type "BaseException")=some true
end L2
namespace L2
open PySem PySem.Spec PyProof.Rows
end L2
namespace GP
open PySem L2 GwM
end GP
namespace L2
open PySem PySem.Spec PyProof.Rows
theorem z4f{X:Cx}:SlR X (λx lo hi H Q=>∃y,x= .str y/\y.length<=sizeLine/\Q (.str (Txt.slice y lo hi)) H):=by
 intro pins s σ H x v vl vu lo hi sl Q I rx hs pl pu h
 obtain⟨y,rfl,hz,q⟩:=h
 obtain⟨t,rfl⟩:=rx
 refine⟨"str",_,PySem.F.slot_str_getitem.lookup,typeIs_str _ _ _,?_⟩
 have fin:(Txt.slice y lo hi).length<=sizeLine/\∀t' k,s.toks<=k->EP X pins σ Q (.str (Txt.slice y lo hi) t') { s with toks:=k }:=⟨Nat.le_trans (Txt.slice_le y _ _) hz,λt' k hk=>⟨.str (Txt.slice y lo hi),H,I.tok k hk,⟨_,rfl⟩,q⟩⟩
 refine TK.wpAny_up (Nat.le_refl s.toks) ?_
 cases pl with
 |none =>
  cases pu with
  |none=>exact wpAny_getItem_str_slice (l:=none) (u:=none) (st:=none) hs rfl (post_val_or_str fin)
  |int j u=>exact wpAny_getItem_str_slice (l:=none) (u:=some (j,u)) (st:=none) hs rfl (post_val_or_str fin)
 |int i u =>
  cases pu with
  |none=>exact wpAny_getItem_str_slice (l:=some (i,u)) (u:=none) (st:=none) hs rfl (post_val_or_str fin)
  |int j u'=>exact wpAny_getItem_str_slice (l:=some (i,u)) (u:=some (j,u')) (st:=none) hs rfl (post_val_or_str fin)
end L2
namespace GP
open PySem L2 GwM
theorem cut_to{xs:List V}{n:Nat}(h:n<=xs.length):cutV xs none (some (n:Int))=xs.take n:=by
 unfold cutV
 rw[HT.sIx_none,HT.sIx_nat,List.drop_zero,Nat.sub_zero,Nat.min_eq_left h]
theorem cut_from{xs:List V}{n:Nat}(h:n<=xs.length):cutV xs (some (n:Int)) none=xs.drop n:=by
 unfold cutV
 rw[HT.sIx_none,HT.sIx_nat,Nat.min_eq_left h,List.take_of_length_le]
 rw[List.length_drop]
 exact Nat.le_refl _
end GP
namespace L2
open PySem PySem.Spec PyProof.Rows
section
variable{prog:Program}{w:World}{A:Around}{E:Value->Shared->Prop}{h:Heap}{gs:Array GenState}{dr:Drawn}{tk:Nat}{os:OsState}
variable{nm qn:Str}{C N:Addr}{bs tl bmB bmN:List Value}{hdct:Bool}{sn:List Str}{sub:List Value}{ab:Bool}{col:Option Bool}{dd:Option Addr}{k0 k1 k2 k3 k5:Option Value}{B Bn newId nid initId inN:String}
theorem z3i{mN:Str->Option Value}{rest:List Value}{fI:Addr}{oI:Obj}{Q:Fin->Shared->Prop}(Fn:ExcBaseFacts Bn newId inN bmN)(hBn:bmB.contains (.type Bn)=true)(FB:ExcBaseFacts B nid initId bmB)(T:OwnTail h bmB tl)
  (hob:h.get? C=some (excClassObj nm qn C N bs tl hdct sn sub ab col dd k0 k1 k2 k3 k5 newId)) (hns:h.Ns N mN) (hini:mN "__init__" =some (.ref fI)) (hfo:h.get? fI=some oI) (hfc:oI.cls= .type "function")
  (hq:∀h' e,Heap.MadeExcOf h h' e (.ref C) rest->wpAny (model prog w) A (call (.ref fI) (.ref e::rest)) (λr s'=>r= .none/\Q (.done (.ret (.ref e))) s') E ⟨h',gs,dr,tk,os⟩) (hz:rest.length<=sizeLine) :
  wpAny (model prog w) A (Builtin.«type.__call__» ⟨.ref C::rest,[]⟩) Q E ⟨h,gs,dr,tk,os⟩:=by
 repeat (first|with_reducible refine wpAny_loadPart_at hob ?_|with_reducible refine wpAny_madeBy_exc hob ?_|wp_step)
 refine codeAny_call_builtin_code (Code.quiet_builtin _ Fn.quiet) (wpAny_check_new_subU Fn hBn T hob ?_)
 refine codeAny_exc_new_subU Fn hBn FB T hob ?_ hz
 show wpAny _ _ _ _ _ _
 have kp:∀b o,h.get? b=some o->((h.push { cls:=.type "tuple",data:=.seq rest.toArray }).push { cls:=.ref C,data:=.fields #[.ref h.objs.size,.none,.none,.none,.bool false,.none] }).get? b=some o:=λb o e=>Heap.get?_push_of_some _ (Heap.get?_push_of_some _ e)
 have hob1:=kp _ _ hob
 have hfo1:=kp _ _ hfo
 have hns1:=hns.keeps kp
 have T1:=T.keeps kp
 have hget1:((h.push { cls:=.type "tuple",data:=.seq rest.toArray }).push { cls:=.ref C,data:=.fields #[.ref h.objs.size,.none,.none,.none,.bool false,.none] }).get? (h.objs.size+1)=some { cls:=.ref C,data:=.fields #[.ref h.objs.size,.none,.none,.none,.bool false,.none] }:=by heap_get
 have hself:(Value.ref C::tl).contains (.ref C)=true:=by simp
 unfold isInstance
 repeat (first|with_reducible refine wpAny_loadPart_at hget1 ?_|(with_reducible refine wpAny_isSubtype_exc hob1 ?_;rw[hself])|wp_step)
 show wpAny _ _ (typeLookup (.ref C) _) _ _ _
 refine wpAny_typeLookup_tail hob1 hns1 T1 FB.mroIs FB.init.lookup ?_
 rw[hini]
 refine wpAny_holding (wpAny_bind ?_)
 unfold bindSpecial
 refine wpAny_bind (wpAny_typeOf (T:= "function") ⟨_,hfo1,hfc⟩ ?_)
 rw[if_pos (by decide)]
 have made:Heap.MadeExcOf h ((h.push { cls:=.type "tuple",data:=.seq rest.toArray }).push { cls:=.ref C,data:=.fields #[.ref h.objs.size,.none,.none,.none,.bool false,.none] }) (h.objs.size+1) (.ref C) rest :=
  ⟨kp,Heap.get?_none_of_le (Nat.le_succ _),h.objs.size,hget1,Heap.get?_none_of_le (Nat.le_refl _),Heap.get?_push_of_some _ (Heap.get?_push_at rfl rfl)⟩
 refine wpAny_pure (wpAny_bind (wpAny_mono (hq _ _ made) (λr s' hr=>?_) λ_ _ x=>x))
 obtain⟨rfl,hQ⟩:=hr
 wp_walk
 exact hQ
theorem call_init{mN:Str->Option Value}{rest:List Value}{fI:Addr}{oI:Obj}{Q:Value->Shared->Prop}(Fn:ExcBaseFacts Bn newId inN bmN)(hBn:bmB.contains (.type Bn)=true)(FB:ExcBaseFacts B nid initId bmB)(T:OwnTail h bmB tl)
  (hob:h.get? C=some (excClassObj nm qn C N bs tl hdct sn sub ab col dd k0 k1 k2 k3 k5 newId)) (hns:h.Ns N mN) (hini:mN "__init__" =some (.ref fI)) (hfo:h.get? fI=some oI) (hfc:oI.cls= .type "function")
  (hq:∀h' e,Heap.MadeExcOf h h' e (.ref C) rest->wpAny (model prog w) (A.under (.builtin "type.__call__" ⟨.ref C::rest,[]⟩)) (call (.ref fI) (.ref e::rest)) (λr s'=>r= .none/\Q (.ref e) s') E ⟨h',gs,dr,tk,os⟩) (hz:rest.length<=sizeLine) :
  wpAny (model prog w) A (call (.ref C) rest) Q E ⟨h,gs,dr,tk,os⟩:=by
 have l1:=tc_lookup
 have l2:=tc_bind (.ref C)
 have hTy:(⟨h,gs,dr,tk,os⟩:Shared).TypeIs (.ref C) "type" :=⟨_,hob,rfl⟩
 refine wpAny_call (codeAny_of_tree ?_)
 show wpAny _ _ (callAny (.ref C) _) _ _ _
 repeat (any_goals (first|assumption|with_reducible refine wpAny_loadPart_at hob ?_|wp_step))
 refine⟨rfl,codeAny_call_builtin_at (Code.quiet_builtin _ (by decide +kernel)) entry_typeCall (wpAny_check_type_call_sub hob (z3i Fn hBn FB T hob hns hini hfo hfc (λh' e hm=>?_) hz))⟩
 exact hq h' e hm
end
end L2
namespace L2
open PySem PySem.Spec PyProof.Rows
def newX(e C:Addr)(od:Option Addr):HO:=.ext λh=>∃vs sl,h.get? e=some ⟨.ref C,od,.fields vs,sl⟩/\vs[1]? =some .none
def xdO(dx:Addr)(fs:List (Str×V)):HO:=.ext λh=>∃mA,h.Ns1 dx mA/\(∀f,RelO (fs.lookup f) (mA f))/\PySem.Within mA (fs.map (·.1))
section
variable{P:Program}{w:World}{H:Hp}{h:Heap}
theorem newX_ok{e C:Addr}{od:Option Addr}{vs:Array Value}{sl:Array (Option Value)}(he:h.get? e=some ⟨.ref C,od,.fields vs,sl⟩)(h1:vs[1]? =some .none):ObjOk P w H h e (newX e C od) :=
 ⟨⟨vs,sl,he,h1⟩,⟨_,he⟩,λ_ _ ⟨v,s,e,z⟩ k=>⟨v,s,k _ e,z⟩⟩
theorem xdO_ok{dx:Addr}{fs:List (Str×V)}{mA:Str->Option Value}(n:h.Ns1 dx mA)(r:∀f,RelO (fs.lookup f) (mA f))(wi:PySem.Within mA (fs.map (·.1))):ObjOk P w H h dx (xdO dx fs) :=
 ⟨⟨mA,n,r,wi⟩,(let ⟨o,_,_,e,_⟩:=n;⟨o,e⟩),λ_ _ ⟨m,n,r,wi⟩ k=>⟨m,n.at k,r,wi⟩⟩
end
def del(H:Hp)(e:Addr):Hp:=λb=>if b=e then none else H b
theorem z1c{H:Hp}{e b:Addr}(h:b≠e):del H e b=H b:=by unfold del;rw[if_neg h]
theorem del_same{H:Hp}{e:Addr}:del H e e=none:=by unfold del;rw[if_pos rfl]
theorem z1y{H:Hp}{e b:Addr}(h:H b=none):del H e b=none:=by unfold del;split<;>first|rfl|exact h
theorem upd_eq{H:Hp}{a:Addr}{o:HO}(h:H a=some o):upd H a o=H:=by
 funext b
 unfold upd
 split
 ·rename_i z;rw[z,h]
 ·rfl
section
variable{X:Cx}{pins:List (Addr×Obj)}{σ:St}{H:Hp}{s:Shared}
theorem Inv.drop{e:Addr}{φ:Heap->Prop}(I:Inv X pins σ H s)(he:H e=some (.ext φ)):Inv X pins σ (del H e) s:=by
 have ne:∀{b:Addr} {o:HO},H b=some o->(∀ ψ,o≠ .ext ψ)->b≠e:=λ{b o} hb n z=>by
  subst z
  rw[he]at hb
  exact n _ (Option.some.inj hb).symm
 refine⟨I.ok,I.os,I.bare,⟨I.base.keep,I.base.slot,λb ob q n hx=>z1y (I.base.free b ob q n hx),I.base.there,λb xs q=>?_,λb ob u q=>?_,λb ps q=>?_⟩,I.loc,I.cell,z1y I.free,λx c q=>z1y (I.freeC x c q),λp hp=>?_,λb u q=>?_,I.len,I.up⟩
 ·have q':=I.base.tups b xs q
  rw[z1c (ne q' λψ z=>by cases z)];exact q'
 ·have q':=I.base.frzs b ob u q
  rw[z1c (ne q' λψ z=>by cases z)];exact q'
 ·obtain⟨more,q'⟩:=I.base.tbls b ps q
  exact⟨more,by rw[z1c (ne q' λψ z=>by cases z)];exact q'⟩
 ·obtain⟨a,n,r⟩:=I.pin p hp
  exact⟨a,z1y n,r⟩
 ·have hb:b≠e:=λz=>by rw[z,del_same]at q;cases q
  rw[z1c hb]at q
  exact(I.hok b u q).stay (λc v _ r=>r) (λc r=>by rw[z1c (ne r λψ z=>by cases z)];exact r) λc xs r=>by rw[z1c (ne r λψ z=>by cases z)];exact r
end
section
variable{M:Model}{A:Around}{E:Value->Shared->Prop}{env:Env}
variable{nm q:Str}{C N:Addr}{bs bm:List Value}{hdct:Bool}{sn:List Str}{sub:List Value}{ab:Bool}{col:Option Bool}{dd:Option Addr}{k0 k1 k2 k3 k5:Option Value}{newId:String}
theorem raise_made {s:Shared} {x:Sem Value} {Q:Flow->Shared->Prop} (hbase:bm.contains (.type "BaseException")=true) (hh:A.handled=none)
  (h:wpAny M A x (λv s₁=>∃e od vs sl,v= .ref e/\s₁.heap.get? C=some (excClassObj nm q C N bs bm hdct sn sub ab col dd k0 k1 k2 k3 k5 newId) ∧
   s₁.heap.get? e=some ⟨.ref C,od,.fields vs,sl⟩/\vs[1]? =some .none/\E (.ref e) s₁) E s):wpAny M A (raiseStmt env (some x) none) Q E s:=by
 have hcB:(Value.ref C::bm).contains (.type "BaseException")=true:=by rw[List.contains_cons,hbase,Bool.or_true]
 unfold raiseStmt
 refine wpAny_bind (wpAny_mono h (λv s₁ h₁=>?_) λ_ _ x=>x)
 obtain⟨e,od,vs,sl,rfl,hC,he,hv,hE⟩:=h₁
 obtain⟨hp,g,d,tk,os⟩:=s₁
 repeat (first|with_reducible refine wpAny_loadPart_at he ?_|with_reducible refine wpAny_loadPart_at hC ?_|(with_reducible refine wpAny_isSubtype_exc hC ?_;rw[hcB])|wp_step)
 rw[hv]
 refine wpAny_pure ?_
 rw[if_neg (by decide)]
 exact wpAny_pure (wpAny_raiseNew_none hh hE)
end
def veMro:List Value:=[.type "ValueError",.type "Exception",.type "BaseException",.type "object"]
structure XClsI(K:PySem.W.Frag)(C fI:Addr):Prop where
 obj:∀h:Heap,K.In h->∃d:XP,h.get? C=some (d.obj C "ValueError.__new__")/\h.Ns d.N d.mN/\d.mN "__init__" =some (.ref fI)/\OwnTail h veMro d.bm
def excInI(K:PySem.W.Frag)(C fI:Addr):Bool:=match K.lookup C with
 |some ⟨.type "type",_,.cls cd,sl⟩=>(match cd.mro,sl.toList with
  | .ref C'::bm,[_,_,_,_,some (.builtin n),_]=>C'==C&&n== "ValueError.__new__" && !cd.hasDel&&PySem.W.tailIn K veMro bm&&PySem.W.nsOkIn K cd.ns&&PySem.W.nsIn K cd.ns "__init__" ==some (some (.ref fI))
  |_,_=>false)
 |_=>false
theorem ns_some_of{K:PySem.W.Frag}{h:Heap}{N:Addr}{mg:Str->Option Value}{n:Str}{v:Value}(X:K.In h)(G:h.Ns N mg)(e:PySem.W.nsIn K N n=some (some v)):mg n=some v:=by
 obtain⟨o,es,ep,ho,hd,_,hf⟩:=G
 unfold PySem.W.nsIn at e
 split at e
 ·rename_i c d es' n' sl q
  have:=X _ _ q
  rw[ho]at this
  cases this
  cases hd
  split at e
  ·rename_i he
   cases e
   rw[←hf]
   unfold nsFind findBy
   rw[←Array.find?_toList,he]
   rfl
  ·split at e
   ·cases e
   ·cases e
 ·cases e
theorem xclsI_of{K:PySem.W.Frag}{C fI:Addr}(q:excInI K C fI=true):XClsI K C fI:=by
 refine⟨λh k=>?_⟩
 unfold excInI at q
 split at q
 ·rename_i dd cd sl hob
  split at q
  ·rename_i C' bm k0 k1 k2 k3 nn k5 hmr hsl0
   simp only[Bool.and_eq_true,beq_iff_eq,Bool.not_eq_true']at q
   obtain⟨⟨⟨⟨⟨e1,e2⟩,e3⟩,e4⟩,e5⟩,e6⟩:=q
   subst e1 e2
   obtain⟨nm,bs,mro,ns,qn,hd,sn,sub,ab,col,del⟩:=cd
   dsimp only at hmr e3 e5 e6
   subst hmr e3
   have hsl:sl= #[k0,k1,k2,k3,some (.builtin "ValueError.__new__"),k5]:=by
    obtain⟨l⟩:=sl
    simp only at hsl0
    rw[hsl0]
   subst hsl
   have G:h.Ns ns _:=.of_isNs (PySem.W.isNs_of_in k e5)
   exact⟨⟨nm,qn,ns,bs,bm,hd,sn,sub,ab,col,dd,k0,k1,k2,k3,k5,_⟩,k _ _ hob,G,ns_some_of k G e6,PySem.W.tail_of_in k e4⟩
  ·cases q
 ·cases q
structure XBase(K:PySem.W.Frag)(W:Addr):Prop where
 ga:PySem.W.specialIn K (.ref W) "__getattribute__" =some (some (.builtin "type.__getattribute__"))
 rd:PySem.W.readsIn K W (.type "type")=true
 fd:PySem.W.findCls K (.ref W) (.type "type") "__init__" =some (.val (.builtin "ValueError.__init__"))
def z2e:List Value->Bool
 |[]=>false
 |v::r=>(v::r)==veMro||match v with| .ref _=>z2e r|_=>false
structure XSt(K:PySem.W.Frag)(C:Addr):Prop where
 hd:PySem.W.hasDictIn K C=true
 po:((PySem.W.clsIn K C).any λcd=>z2e cd.mro)=true
 sa:PySem.W.findIn K (.ref C) "__setattr__" =some (some (.builtin "object.__setattr__"))
theorem refuse_ve(self:Value):∀{l:List Value},z2e l=true->refuseLoop self "__setattr__" l=pure ()
 |[],e=>by cases e
 |v::r,e=>by
  unfold z2e at e
  rcases Bool.or_eq_true_iff.mp e with q|q
  ·rw[beq_iff_eq.mp q];exact PySem.F.store_ValueError.passes self
  ·split at q
   ·rw[refuseLoop_ref];exact refuse_ve self q
   ·cases q
theorem ve_has:∀{l:List Value},z2e l=true->l.contains (.type "object")=true
 |[],e=>by cases e
 |v::r,e=>by
  unfold z2e at e
  rcases Bool.or_eq_true_iff.mp e with q|q
  ·rw[beq_iff_eq.mp q];decide +kernel
  ·split at q
   ·rw[List.contains_cons,ve_has q,Bool.or_true]
   ·cases q
end L2
namespace L2
open PySem PySem.Spec PyProof.Rows
def tBase(K:PySem.W.Frag)(t:TA):TE:=λσ H Q=>t σ H λvs H1=>∃e C fI od y,vs=[.ref e,y]/\H1 e=some (newX e C od)/\XClsI K C fI/\Q .non H1
theorem pe_base {X:Cx} {x:Str} {W:Addr} {np apos cpos:Pos} {a b:Expr} {t:TA} {pl:Sem Bool} (hW:XBase X.K W) (hg:Gl X x) (hm:X.mg x=some (.ref W)) (ha:PA X [a,b] t) (hdb:(x==("__debug__" :Str))=false:=by decide)
  (hev:eval (.Call (.Attribute (.Name x np) "__init__" apos) [a,b] [] cpos) X.env=(do
   let ov ←eval (.Name x np) X.env
   standAt apos.atName
   let (f,first) ←holding [ov] (getMethod ov "__init__" pl)
   callWith cpos f first (backTo cpos (starEach [a,b] X.env)) (backToKw cpos (keywordEach [] X.env))):=by rfl)
  (hs:starEach [a,b] X.env=(false,eval a X.env)::starEach [b] X.env:=by rfl) (hpl:(backTo cpos (starEach [b] X.env)).any (·.1)=false:=by rfl) :
  PE X (.Call (.Attribute (.Name x np) "__init__" apos) [a,b] [] cpos) (tBase X.K t):=by
 intro pins s σ H Q I h
 refine PySem.W.methodCall_KW (pl:=pl) (q7f I hg hm ?_ hdb) hev
 refine PySem.W.method_cls I.kIn hW.ga (PySem.W.cls_value I.kIn hW.rd hW.fd (by decide +kernel) ?_)
 have hA:=ha cpos pins { s with toks:=s.toks+1 } σ H _ (I.tok _) h
 rw[hs]at hA ⊢
 refine Calls.callWith_builtin (by show(false||(backTo cpos (starEach [b] X.env)).any (·.1))=false;rw[hpl]<;>rfl) (Calls.evalArgs_plain ?_)
 refine thn hA λus s2 ⟨vs,H2,I2,r2,e,C,fI,od,y,e1,hx,O,q⟩=>?_
 subst e1
 obtain⟨u1,u2,rfl,ru1,_⟩:=vals2 r2
 cases (show u1=Value.ref e from ru1)
 obtain⟨⟨vs,sl,he,h1⟩,_,_⟩:=(show ObjOk X.prog X.w H2 s2.heap e (newX e C od) from I2.hok e _ hx)
 obtain⟨d,hC,hN,hni,T⟩:=O.obj s2.heap I2.kIn
 have F:=PySem.F.excBase_ValueError
 have I2':=I2
 obtain⟨hh,gs,dr,tk,os⟩:=s2
 show wpAny _ _ (call (.builtin "ValueError.__init__") [.ref e,u2]) _ _ _
 refine wpAny_call (codeAny_call_builtin F.init.plain F.initEntry (wpAny_check_init_subU F T hC he rfl ?_))
 have hv:0<vs.size:=Nat.lt_of_le_of_lt (Nat.zero_le 1) (Array.getElem?_eq_some_iff.mp h1).1
 have hv0:vs[0]? =some vs[0]:=Array.getElem?_eq_getElem hv
 wp_walk
 rw[hv0]
 refine wpAny_pure ?_
 have hg:(hh.push { cls:=.type "tuple",data:=.seq #[u2] }).get? e=some ⟨.ref C,od,.fields vs,sl⟩:=Heap.get?_push_of_some _ he
 refine wpAny_bind (wpAny_setField hg rfl hv ?_)
 have hu:=Heap.get?_update_self (Obj.mapFields (·.setIfInBounds 0 (Value.ref hh.objs.size))) hg rfl
 have fin:EP X pins σ Q Value.none ⟨(hh.push { cls:=.type "tuple",data:=.seq #[u2] }).update e (Obj.mapFields (·.setIfInBounds 0 (Value.ref hh.objs.size))),gs,dr,tk,os⟩:=by
  refine⟨.non,H2,?_,rfl,q⟩
  have J1:=I2'.kept (h':=hh.push { cls:=.type "tuple",data:=.seq #[u2] }) (t':=tk) λb u z=>Heap.get?_push_of_some _ z
  have J2:=J1.write (x:=e) (e:=e) (o:=newX e C od) (t':=tk) (by rw[hx];exact True.intro) (.inl rfl) (λb u hb z=>(Heap.get?_update_other _ _ (Ne.symm hb)).trans z) ⟨_,hu⟩ (newX_ok hu (by simp[h1]))
  rw[upd_eq hx]at J2
  exact J2
 cases hq:vs[0]with
 |ref t0=>exact wpAny_letGo (wpAny_pure fin)
 |_=>exact wpAny_pure (wpAny_pure fin)
end L2
namespace L2
open PySem PySem.Spec PyProof.Rows
section
variable{prog:Program}{w:World}{A:Around}{E:Value->Shared->Prop}{s:Shared}{K:PySem.W.Frag}{x dx C:Addr}{name:Str}{v:Value}{R:Result->Shared->Prop}
theorem osa_exc{ox:Obj}{od:Option Obj}{tk:Tok}(X:K.In s.heap)(I:PySem.W.InstAt s.heap x ox C od)(S:XSt K C)(ht:PySem.W.takerIn K C name=some none)
  (h:∀b,wpAny (model prog w) A.in1 (Builtin.ObjectAttr.storeInOwnDict (.ref x) (.ref C) (.str name tk) name v b)
   (λfin s'=>match fin with| .done f=>R (.ok f) s'| .again c'=>c'.quiet=true/\codeAny (model prog w) A c' R s') (λe s'=>R (.error e) s') s) :
  codeAny (model prog w) A (.call (.builtin "object.__setattr__") ⟨[.ref x,.str name tk,v],[]⟩) R s:=by
 have SF:=PySem.F.store_object
 obtain⟨cd,hc,ho⟩:=PySem.W.any_some S.po
 have ne:cd.mro.isEmpty=false:=by cases q:cd.mro with|nil=>rw[q]at ho;cases ho|cons _ _=>rfl
 have sub:PySem.W.Looks (model prog w) s.heap (isInstance (.ref x) (.type "object")) true:=I.type.andThen (PySem.W.looks_mroIn X (by unfold PySem.W.mroIn;rw[hc,Option.bind_some,if_neg (by rw[ne];decide),ve_has ho]))
 refine codeAny_call_builtin SF.slot.plain SF.entry (@PySem.W.check_slot (model prog w) _ _ s "object.__setattr__" "object" "__setattr__" (.ref x) [.str name tk,v] [] _ SF.kind SF.split sub (SF.args (.ref x) (.str name tk) v) ?_)
 obtain⟨attr,ha,hr⟩:=Option.bind_eq_some_iff.mp ht
 have hm:PySem.W.Looks (model prog w) s.heap (mroOf (.ref C)) cd.mro:=(PySem.W.looks_clsIn X hc).andThen .now
 have L3:PySem.W.Looks (model prog w) s.heap (Builtin.ObjectAttr.storeTaker? attr) none:=by
  cases attr with
  |none=>cases hr;exact .now
  |some a =>
   obtain⟨b,hb,e⟩:=Option.map_eq_some_iff.mp hr
   refine(PySem.W.looks_takesIn X hb).andThen ?_
   cases b with
   |false=>exact .now
   |true=>cases e
 rw[PySem.W.osa_eq,refuse_eq]
 refine wpAny_bind (wpAny_bind (I.type.here (wpAny_bind (hm.here ?_))))
 rw[refuse_ve _ ho]
 refine wpAny_pure (wpAny_bind (I.type.here (wpAny_bind ((PySem.W.looks_findIn X ha).here (wpAny_bind (L3.here ?_))))))
 exact h _
theorem store_some{vs:Array Value}{sl:Array (Option Value)}{mA:Str->Option Value}{ns:List Str}{Q:Unit->Shared->Prop}(X:K.In s.heap)(S:XSt K C)(ht:PySem.W.takerIn K C name=some none)
  (he:s.heap.get? x=some ⟨.ref C,some dx,.fields vs,sl⟩) (hn:s.heap.Ns1 dx mA) (hw:PySem.Within mA ns) (hsz:ns.length+1<=sizeLine)
  (h:∀h',h'.Ns1 dx (λy=>if y=name then some v else mA y)->Heap.SameBut dx s.heap h'->Q () { s with heap:=h',toks:=s.toks+2 }):wpAny (model prog w) A (setAttr (.ref x) name v) Q E s:=by
 obtain⟨od,ho,hl⟩:=z2x hn
 have J:PySem.W.InstAt s.heap x ⟨.ref C,some dx,.fields vs,sl⟩ C (some od):=⟨he,rfl,rfl,ho⟩
 refine PySem.W.set_plain X J S.sa (osa_exc (s:={ s with toks:=s.toks+1 }) X J S ht λb=>?_)
 obtain⟨cd,hc,hd'⟩:=PySem.W.any_some S.hd
 refine wpAny_bind (wpAny_pure (wpAny_bind (wpAny_bind (wpAny_loadPart he (wpAny_bind (PySem.W.Looks.here (s:={ s with toks:=s.toks+1 }) (PySem.W.looks_clsIn X hc) ?_))))))
 rw[hd']
 refine wpAny_pure (a:=some dx) (wpAny_bind (wpAny_pure (wpAny_bind ?_)))
 refine wpAny_nsSet1 (s:={ s with toks:=s.toks+1 }) hn λh' hn2 hs2=>?_
 obtain⟨oD,esD,epD,hoD,hdD,hcD⟩:=hn2.count (PySem.Within.cons name v hw)
 refine wpAny_bind (wpAny_lookBehind hoD (by rw[hdD];exact pastItsLine_dict (Nat.le_trans hcD (by rw[List.length_cons];omega))) ?_)
 exact wpAny_pure (h _ hn2 hs2)
theorem store_none{vs:Array Value}{sl:Array (Option Value)}{Q:Unit->Shared->Prop}(X:K.In s.heap)(S:XSt K C)(ht:PySem.W.takerIn K C name=some none)
  (he:s.heap.get? x=some ⟨.ref C,none,.fields vs,sl⟩)
  (h:∀h',h'.Ns1 s.heap.objs.size (λy=>if y=name then some v else none)->Heap.SameBut s.heap.objs.size ((s.heap.push PySem.W.emptyDict).update x λo=>{ o with dict:=some s.heap.objs.size }) h'->Q () { s with heap:=h',toks:=s.toks+2 }):wpAny (model prog w) A (setAttr (.ref x) name v) Q E s:=by
 have J:PySem.W.InstAt s.heap x ⟨.ref C,none,.fields vs,sl⟩ C none:=⟨he,rfl,rfl,trivial⟩
 refine PySem.W.set_plain X J S.sa (osa_exc (s:={ s with toks:=s.toks+1 }) X J S ht λb=>?_)
 obtain⟨cd,hc,hd'⟩:=PySem.W.any_some S.hd
 refine wpAny_bind (wpAny_pure (wpAny_bind (wpAny_bind (wpAny_loadPart he (wpAny_bind (PySem.W.Looks.here (s:={ s with toks:=s.toks+1 }) (PySem.W.looks_clsIn X hc) ?_))))))
 rw[hd']
 rw[if_neg (by decide)]
 have hxs:x≠s.heap.objs.size:=Nat.ne_of_lt (Heap.lt_size he)
 have hx₁:(s.heap.push PySem.W.emptyDict).get? x=some ⟨.ref C,none,.fields vs,sl⟩:=Heap.get?_push_of_some _ he
 show wpAny (model prog w) A.in1 (alloc PySem.W.emptyDict >>= λd=>update x (λo=>{ o with dict:=some d }) >>= λ_=>dictMade (.ref C) x d) _ _ _
 refine wpAny_bind (wpAny_alloc (wpAny_bind (wpAny_update hx₁ ?_)))
 refine wpAny_pure ?_
 have hgd:((s.heap.push PySem.W.emptyDict).update x λo=>{ o with dict:=some s.heap.objs.size }).get? s.heap.objs.size=some PySem.W.emptyDict :=
  (Heap.get?_update_ne _ _ _ _ hxs.symm).trans (Heap.get?_push_size _ rfl)
 have hnd:((s.heap.push PySem.W.emptyDict).update x λo=>{ o with dict:=some s.heap.objs.size }).Ns s.heap.objs.size (λ_=>none) :=
  ⟨_,#[],_,hgd,rfl,λe he=>absurd he (by simp),λ_=>rfl⟩
 show wpAny _ _ (Builtin.ObjectAttr.storeInDict s.heap.objs.size (.str name s.toks) name v) _ _ _
 refine wpAny_bind (wpAny_pure (wpAny_bind ?_))
 refine wpAny_nsSet1 (s:={ s with heap:=(s.heap.push PySem.W.emptyDict).update x λo=>{ o with dict:=some s.heap.objs.size },toks:=s.toks+1 }) (Heap.Ns1.of_empty hnd) λh' hn2 hs2=>?_
 obtain⟨oD,esD,epD,hoD,hdD,hcD⟩:=hn2.count (PySem.Within.cons name v PySem.Within.nil)
 refine wpAny_bind (wpAny_lookBehind hoD (by rw[hdD];exact pastItsLine_dict (Nat.le_trans hcD (by rw[List.length_cons,List.length_nil,sizeLine_eq];omega))) ?_)
 exact wpAny_pure (h _ hn2 hs2)
end
end L2
namespace L2
open PySem PySem.Spec PyProof.Rows
theorem relO_put{fs:List (Str×V)}{mA:Str->Option Value}{f:Str}{y:V}{u:Value}(r:∀g,RelO (fs.lookup g) (mA g))(ry:RelV y u):∀g,RelO ((q1b f y fs).lookup g) (if g=f then some u else mA g):=λg=>by
 rw[q0f]
 by_cases q:g=f
 ·rw[if_pos q,if_pos q];exact ry
 ·rw[if_neg q,if_neg q];exact r g
theorem z3z{fs:List (Str×V)}{mA:Str->Option Value}{f:Str}{y:V}{u:Value}(wi:PySem.Within mA (fs.map (·.1))):PySem.Within (λg=>if g=f then some u else mA g) ((q1b f y fs).map (·.1)):=λg hg=>by
 by_cases q:g=f
 ·rw[q];exact(q7y f y fs).1
 ·refine(q7y f y fs).2 g (wi g λz=>hg ?_)
  show(if g=f then some u else mA g)=none
  rw[if_neg q];exact z
def sFldX(K:PySem.W.Frag)(ta tv:TE)(f:Str):TS:=λD σ H=>tv σ H λy H1=>ta σ H1 λx H2=>∃e C,x= .ref e/\XSt K C/\NoAttr K C f ∧
 ((H2 e=some (newX e C none)/\∀dx,H2 dx=none->D.nx σ (upd (upd (upd H2 dx (xdO dx [])) e (newX e C (some dx))) dx (xdO dx (q1b f y [])))) ∨
  ∃dx fs,H2 e=some (newX e C (some dx))/\H2 dx=some (xdO dx fs)/\fs.length<1000/\D.nx σ (upd H2 dx (xdO dx (q1b f y fs))))
theorem ps_fldX{X:Cx}{o value:Expr}{f:Str}{pos pos':Pos}{ta tv:TE}(ha:PE X o ta)(hv:PE X value tv)(hs:swapsWith value (some (.Attribute o f pos')) pos.line X.env=pure false):PS X (.Assign [.Attribute o f pos'] value pos) (sFldX X.K ta tv f):=by
 intro pins s σ H D I h
 refine plainObj_wpAny_Assign_Attribute (thn (hv pins s σ H _ I h) λu s1 ⟨y,H1,I1,ry,q⟩=>thn (ha pins s1 σ H1 _ I1 q) λov s2 ⟨x,H2,I2,rx,e,C,ex,S,n,hk⟩=>?_) hs
 subst ex
 obtain rfl:ov=Value.ref e:=rx
 rcases hk with⟨hx,q2⟩|⟨dx,fs,hx,hd,hl,q2⟩
 ·obtain⟨⟨vs,sl,he,h1⟩,_,_⟩:=(show ObjOk X.prog X.w H2 s2.heap e (newX e C none) from I2.hok e _ hx)
  refine store_none I2.kIn S n.taker he λh' hn' sb=>?_
  have ne:e≠s2.heap.objs.size:=Nat.ne_of_lt (Heap.lt_size he)
  have e1:(s2.heap.push PySem.W.emptyDict).get? s2.heap.objs.size=some PySem.W.emptyDict:=Heap.get?_push_size _ rfl
  have n1:(s2.heap.push PySem.W.emptyDict).Ns1 s2.heap.objs.size (λ_=>none):=Heap.Ns1.of_empty ⟨_,#[],_,e1,rfl,(λe he=>absurd he (by simp)),λ_=>rfl⟩
  have he1:(s2.heap.push PySem.W.emptyDict).get? e=some ⟨.ref C,none,.fields vs,sl⟩:=Heap.get?_push_of_some _ he
  have he2:=Heap.get?_update_self (λo=>{ o with dict:=some s2.heap.objs.size }) he1 rfl
  have J1:=I2.laid (a:=s2.heap.objs.size) (o:=xdO s2.heap.objs.size []) (h':=s2.heap.push PySem.W.emptyDict) (t':=s2.toks) (λb u q=>Heap.get?_push_of_some _ q) (Nat.le_refl _) (xdO_ok n1 (λ_=>True.intro) (λy hy=>absurd rfl hy))
  have J2:=J1.write (x:=e) (e:=e) (o:=newX e C (some s2.heap.objs.size)) (t':=s2.toks) (by rw[upd_ne ne,hx];exact True.intro) (.inl rfl) (λb u hb q=>(Heap.get?_update_other _ _ (Ne.symm hb)).trans q) ⟨_,he2⟩ (newX_ok he2 h1)
  have J3:=J2.write (x:=s2.heap.objs.size) (e:=s2.heap.objs.size) (o:=xdO s2.heap.objs.size (q1b f y [])) (h':=h') (t':=s2.toks+2) (by rw[upd_ne (Ne.symm ne),upd_same];exact True.intro) (.inl rfl) (λb u hb q=>(sb.2 b hb).trans q) (let ⟨o,_,_,e,_⟩:=hn';⟨o,e⟩)
   (xdO_ok hn' (relO_put (mA:=λ_=>none) (λ_=>True.intro) ry) (z3z (mA:=λ_=>none) λy hy=>absurd rfl hy)) (ht:=by show s2.toks<=s2.toks+2;omega)
  exact⟨σ,_,J3,q2 _ (I2.hok.fresh (Nat.le_refl _))⟩
 ·obtain⟨⟨vs,sl,he,h1⟩,_,_⟩:=(show ObjOk X.prog X.w H2 s2.heap e (newX e C (some dx)) from I2.hok e _ hx)
  obtain⟨⟨mA,nA,rA,wA⟩,_,_⟩:=(show ObjOk X.prog X.w H2 s2.heap dx (xdO dx fs) from I2.hok dx _ hd)
  refine store_some I2.kIn S n.taker he nA wA (by rw[List.length_map,sizeLine_eq];omega) λh' hn' sb=>?_
  have J3:=I2.write (x:=dx) (e:=dx) (o:=xdO dx (q1b f y fs)) (h':=h') (t':=s2.toks+2) (by rw[hd];exact True.intro) (.inl rfl) (λb u hb q=>(sb.2 b hb).trans q) (let ⟨o,_,_,e,_⟩:=hn';⟨o,e⟩) (xdO_ok hn' (relO_put rA ry) (z3z wA))
  exact⟨σ,_,J3,q2⟩
structure XMk(K:PySem.W.Frag)(C f:Addr):Prop where
 cls:XClsI K C f
 fn:PySem.W.isFn K (.ref f)=true
 kp:PySem.W.keepIn K (.ref C)=true
def tRaiseI(C:Addr)(sp:Sp)(E:St->XK)(t:TA):TS:=λ_ σ H=>t σ H λvs H1=>vs.length<=sizeLine/\∀e,H1 e=none →
 sp (.ref e::vs) (upd H1 e (newX e C none)) (λv H2=>v= .non/\∃od,H2 e=some (newX e C od)/\E σ (.ref C) od (del H2 e)) (E σ)
theorem ps_raiseI{X:Cx}{E:St->XK}{C f:Addr}{x:Str}{np cpos pos:Pos}{k:Nat}{fd:FuncData}{ps:List Str}{sp:Sp}{e:Expr}{es:List Expr}{t:TA}(L:Lets X E)(M:XMk X.K C f)
  (F:FnOk X.prog X.w X.K X.mg X.base (CXs X.prog X.w) k f fd ps sp) (hr:Room (k+1) X.A) (hb:Binds X.K fd ps []) (hc:X.calm=true)
  (hg:Gl X x) (hm:X.mg x=some (.ref C)) (ha:PA X (e::es) t) (hdb:(x==("__debug__" :Str))=false:=by decide) (he:starEach (e::es) X.env=(false,eval e X.env)::starEach es X.env:=by rfl)
  (hpl:(backTo cpos (starEach es X.env)).any (·.1)=false:=by rfl):PS X (.Raise (some (.Call (.Name x np) (e::es) [] cpos)) none pos) (tRaiseI C sp E t):=by
 intro pins s σ H D I h
 obtain⟨d,hC,hN,hni,T⟩:=M.cls.obj X.base I.ok.mod.kin
 rw[arm_exec_Raise]
 have FB:=PySem.F.excBase_ValueError
 simp only[evalOpt,Option.map]
 refine wpAny_bind (wpAny_standAt (raise_made (C:=C) (nm:=d.nm) (q:=d.q) (N:=d.N) (bs:=d.bs) (bm:=d.bm) (hdct:=d.hdct) (sn:=d.sn) (sub:=d.sub) (ab:=d.ab) (col:=d.col) (dd:=d.dd) (k0:=d.k0) (k1:=d.k1) (k2:=d.k2) (k3:=d.k3) (k5:=d.k5) (newId:= "ValueError.__new__") (T.hasType FB.hasBase) (I.ok.hd hc) ?_))
 refine wpAny_bind (thn (Q:=λv s₁=>∃e od vs sl,v= .ref e/\s₁.heap.get? C=some (d.obj C "ValueError.__new__")/\s₁.heap.get? e=some ⟨.ref C,od,.fields vs,sl⟩/\vs[1]? =some .none/\X.xe (.ref e) s₁) ?_ λv s2 h2=>wpAny_bind (wpAny_standAt (wpAny_pure h2)))
 refine wpAny_Call_Name_kw (q7f I hg hm ?_ hdb)
 refine PySem.W.callWith_K (h₀:=X.base) I.ok.mod.kin M.kp (thn (ha cpos pins s σ H _ I h) λus s1 ⟨vs,H1,I1,r,hl,q1⟩=>⟨I1.kIn,?_⟩) he hpl
 have hfo:∃o,s1.heap.get? f=some o/\o.cls= .type "function" :=by
  obtain⟨o,ho,hc⟩:=Option.map_eq_some_iff.mp (beq_iff_eq.mp M.fn)
  exact⟨o,I1.kIn _ _ ho,hc⟩
 obtain⟨oI,hfo,hfc⟩:=hfo
 have I1':=I1
 obtain⟨hh,gs,dr,tk,os⟩:=s1
 refine call_init (N:=d.N) (mN:=d.mN) FB FB.hasB FB (T.keeps I1.bk) (I1.bk _ _ hC) (hN.keeps I1.bk) hni hfo hfc (λh' ea made=>?_) (by show us.length<=sizeLine;rw[←r.length];exact hl)
 obtain⟨t',ht,_,_⟩:=made.there
 have xo:=I1.xok made.new (I1.hok.none_of made.new)
 have J0:Inv X pins σ H1 ⟨h',gs,dr,tk,os⟩:=I1.kept (t':=tk) made.keeps
 have J1:Inv X pins σ (upd H1 ea (newX ea C none)) ⟨h',gs,dr,tk,os⟩:=J0.tracks xo (newX_ok ht rfl)
 have hq:=q1 ea xo.1
 have r2:Vals (V.ref ea::vs) (Value.ref ea::us):=.cons rfl r
 have hlen:(Value.ref ea::us).length=ps.length:=by rw[←r2.length];exact F.len _ _ _ _ hq
 refine wpAny_call (codeAny_mono (F.run _ X.stack _ _ ⟨Value.ref ea::us,[]⟩ (Value.ref ea::us) _ _ (E σ) (hr.make C us []) (J1.env0.make C us []) (by have z:=hb _ (Value.ref ea::us) J1.kIn (by rw[List.append_nil];exact hlen);rw[List.append_nil]at z;exact z) r2 hq) λrr s' hq'=>?_)
 cases rr with
 |error e=>exact L.pass J1 hq'
 |ok fl =>
  cases fl with
  |ret u =>
   obtain⟨v,H',I3,rv,ev,od,hx,qE⟩:=J1.after hq'
   subst ev
   obtain⟨⟨vs',sl',he',h1'⟩,_,_⟩:=(show ObjOk X.prog X.w H' s'.heap ea (newX ea C od) from I3.hok ea _ hx)
   refine⟨rv,ea,od,vs',sl',rfl,I3.bk _ _ hC,he',h1',?_⟩
   exact L pins σ (del H' ea) s' ea (.ref C) od (I3.drop hx) ⟨⟨del_same,xo.2⟩,vs',sl',he',.inl h1'⟩ qE
  |next=>exact False.elim hq'
  |brk=>exact False.elim hq'
  |cont=>exact False.elim hq'
end L2
namespace L2
open PySem PySem.Spec PyProof.Rows
section
variable{X:Cx}{a b c:Expr}{ta tb tc:TE}{pos:Pos}{rest:List Expr}
end
end L2
namespace L2
open PySem PySem.Spec PyProof.Rows
end L2
namespace GP
open PySem L2 GwM
theorem log_small{n:Nat}(h:n<=100000):((n:Nat):Int).natAbs.log2<1920:=by
 rw[Int.natAbs_natCast]
 by_cases z:n=0
 ·subst z;decide
 ·rw[Nat.log2_lt z]
  exact Nat.lt_of_le_of_lt h (Nat.lt_of_lt_of_le (show 100000<2 ^ 20 by decide) (Nat.pow_le_pow_right (by decide) (by decide)))
theorem fit_app{a b:Str}{m n:Nat}(h1:a.length<=m)(h2:b.length<=n):(a++b).length<=m+n:=by rw[strLen_append];omega
def spNoSign(C:Addr):Sp:=λvs H Q _=>∃(e:Addr) (i j:Nat),vs=[.ref e,.int i,.int j]/\H e=some (newX e C none)/\i<=100000/\j<=100000 ∧
 ∀dx H',(∀b u,H b=some u->b≠e->H' b=some u)->H dx=none->H' e=some (newX e C (some dx))->H' dx=some (xdO dx (q1b "place" (.int j) (q1b "row" (.int i) [])))->Q .non H'
end GP
namespace L2
open PySem PySem.Spec PyProof.Rows
theorem exc_attr{prog:Program}{w:World}{A:Around}{E:Value->Shared->Prop}{s:Shared}{K:PySem.W.Frag}{x C:Addr}{ox:Obj}{od:Option Obj}{name:Str}{expr:Bool}{v:Value}{Q:Value->Shared->Prop}(Z:XTy K C)(k:K.In s.heap)(I:PySem.W.InstAt s.heap x ox C od)
  (hf:PySem.W.findObj K C od name=some (.value v)) (hd:PySem.W.handedIn v=true) (h:Q v { s with toks:=s.toks+1 }):wpAny (model prog w) A (getAttr (.ref x) name expr) Q E s:=by
 obtain⟨hh,g,d,t,os⟩:=s
 have L0:=I.type (M:=model prog w)
 have L1:=PySem.W.looks_findIn (M:=model prog w) k Z.ga
 have L2:=PySem.W.looks_findIn (M:=model prog w) k Z.gn
 have LB:=PySem.W.looks_mroIn (M:=model prog w) k Z.hb
 have LF:=PySem.W.looks_find (M:=model prog w) k I hf
 unfold getAttr getAttrBy
 refine wpAny_bind (wpAny_mkText (wpAny_holding (wpAny_bind (L0.at (wpAny_bind (L1.at ?_))))))
 show wpAny _ _ (getAttrByItsOwn _ _ _ _ _ _) _ _ _
 unfold getAttrByItsOwn hookBefore
 refine wpAny_bind (L2.at ?_)
 refine wpAny_bind (wpAny_attempt (wpAny_holding ?_))
 have e0:∀n:Value,callGetattribute (.ref x) n (.builtin "BaseException.__getattribute__") expr=boundAndCalled (.builtin "BaseException.__getattribute__") (.ref x) n:=λn=>by
  unfold callGetattribute
  cases expr<;>rfl
 rw[e0]
 unfold boundAndCalled
 refine wpAny_bind (wpAny_of_eq (PySem.F.attr_ValueError.ga.bind (.ref x)) ?_)
 show wpAny _ _ (call (.builtin "BaseException.__getattribute__") [.ref x,.str name t]) _ _ _
 refine wpAny_call (codeAny_call_builtin PySem.F.attr_ValueError.ga.plain PySem.F.entry_bexc_ga ?_)
 have c1:builtinKind "BaseException.__getattribute__" =some .slot:=by decide +kernel
 have c2:splitId "BaseException.__getattribute__" =some ("BaseException","__getattribute__"):=by decide +kernel
 have c3:=PySem.F.args_bexc_ga (.ref x) (.str name t)
 simp only[checkBuiltinCall,c1,c2]
 refine wpAny_bind (wpAny_bind (L0.at (LB.at ?_)))
 simp only[Bool.not_true,Bool.false_eq_true,if_false]
 unfold argsOk at c3
 refine wpAny_of_eq c3 ?_
 unfold Builtin.«object.__getattribute__»
 refine wpAny_bind (wpAny_pure (wpAny_bind (wpAny_pure (wpAny_bind (L0.at (wpAny_bind (LF.at ?_)))))))
 refine wpAny_pure ?_
 show wpAny _ _ (handedOut v) _ _ _
 rw[PySem.W.handedOut_of hd]
 exact wpAny_pure h
def tFldE(K:PySem.W.Frag)(ta:TE)(f:Str):TE:=λσ H Q=>ta σ H λx H1=>∃e C dx fs i,x= .ref e/\H1 e=some (exO e (.ref C) (some dx))/\H1 dx=some (xdO dx fs)/\XTy K C/\NoAttr K C f/\fs.lookup f=some (.int i)/\Q (.int i) H1
theorem inst_exc{P:Program}{w:World}{H:Hp}{h:Heap}{e C dx:Addr}{fs:List (Str×V)}(hok:HOk P w H h)(he:H e=some (exO e (.ref C) (some dx)))(hd:H dx=some (xdO dx fs)):
  ∃ox od,∃mA:Str->Option Value,PySem.W.InstAt h e ox C (some od)/\(∀name,PySem.W.lookIn name od=some (mA name))/\∀f,RelO (fs.lookup f) (mA f):=by
 obtain⟨⟨vs,sl,h1⟩,_,_⟩:=(show ObjOk P w H h e (exO e (.ref C) (some dx)) from hok e _ he)
 obtain⟨⟨mA,nA,rA,wA⟩,_,_⟩:=(show ObjOk P w H h dx (xdO dx fs) from hok dx _ hd)
 obtain⟨od,ho,hl⟩:=z2x nA
 exact⟨_,od,mA,⟨h1,rfl,rfl,ho⟩,hl,rA⟩
theorem pe_fldE{X:Cx}{e:Expr}{f:Str}{pos:Pos}{ta:TE}(he:PE X e ta)(hb:attributeBase e f X.env (eval e X.env)=eval e X.env):PE X (.Attribute e f pos) (tFldE X.K ta f):=by
 intro pins s σ H Q I h
 refine attr_of hb (thn (he pins s σ H _ I h) λu s1 ⟨x,H1,I1,rx,e,C,dx,fs,i,ex,hx,hd,Z,n,l,q⟩=>?_)
 subst ex
 obtain rfl:u=Value.ref e:=rx
 obtain⟨ox,od,mA,J,hl,rA⟩:=inst_exc I1.hok hx hd
 have r:=rA f
 rw[l]at r
 cases hm:mA f with
 |none=>rw[hm]at r;exact r.elim
 |some u =>
  rw[hm]at r
  obtain⟨t,rfl⟩:=(show ∃t,u=Value.int i t from r)
  refine exc_attr Z I1.kIn J ?_ rfl ⟨.int i,H1,I1.tok _,⟨t,rfl⟩,q⟩
  obtain⟨cd,hc,hdd⟩:=PySem.W.any_some Z.hd
  have hn:PySem.W.findIn X.K (.ref C) f=some none:=n
  unfold PySem.W.findObj
  rw[hc,Option.bind_some,hn,Option.bind_some]
  simp only[Option.bind_some,PySem.W.ownOf,hdd,if_true,hl,hm]
theorem strExt{x y:Str}(h:x.cps=y.cps):x=y:=by
 cases x
 cases y
 exact congrArg Str.mk h
def repS(x:Str)(n:Int):Str:=⟨(List.replicate n.toNat x.cps).foldl (·++·) #[]⟩
theorem z4h(a:Array Nat):∀(n:Nat) (b:Array Nat),((List.replicate n a).foldl (·++·) b).toList=b.toList++(List.replicate n a.toList).flatten
 | 0,b=>by simp
 |n+1,b=>by
  rw[List.replicate_succ,List.foldl_cons,z4h a n,List.replicate_succ,List.flatten_cons,Array.toList_append,List.append_assoc]
theorem z2m(x:Str)(n:Int):(repS x n).cps.toList=(List.replicate n.toNat x.cps.toList).flatten:=by
 unfold repS
 rw[z4h]
 rfl
theorem repS_len(x:Str)(n:Int):(repS x n).cps.size=n.toNat*x.cps.size:=by
 rw[←Array.length_toList,z2m,List.length_flatten,List.map_replicate,List.sum_replicate_nat]
 rfl
theorem op_repS{X:Cx}:OpR X (binaryOp .Mult) (λx y H Q=>∃z n,x= .str z/\y= .int n/\ -1000000<=n/\n<=1000000/\z.cps.size<=1000000/\n.toNat*z.cps.size<=sizeLine/\Q (.str (repS z n)) H):=by
 intro pins s σ H x y v u Q I rx ry h
 obtain⟨z,n,rfl,rfl,h1,h2,h3,h4,q⟩:=h
 obtain⟨t,rfl⟩:=rx
 obtain⟨t',rfl⟩:=ry
 have hl:z.length=z.cps.size:=rfl
 refine TK.wpAny_up (Nat.le_refl s.toks) (PySem.P.mul_str ?_ (λk1 _=>?_) (λ_ _=>?_) ?_)
 ·rw[decide_eq_false (by omega),decide_eq_false (by omega)];rfl
 ·have k2:1<=n:=by omega
  have:(2 ^ 63-1:Int) / n>=1000000:=by
   rw[ge_iff_le,Int.le_ediv_iff_mul_le (by omega)]
   calc 1000000*n<=1000000*1000000:=by omega
    _<=_:=by decide
  omega
 ·show decide (z.length*n.toNat>sizeLine)=false
  rw[hl,Nat.mul_comm]
  exact decide_eq_false (Nat.not_lt.mpr h4)
 ·have fin:∀y:Str,y=repS z n->∀t k,s.toks<=k->EP X pins σ Q (.str y t) { s with toks:=k }:=λy e t k hk=>⟨.str (repS z n),H,I.tok k hk,⟨t,by rw[e]⟩,q⟩
  by_cases k1:n<1
  ·rw[if_pos k1]
   refine⟨Nat.zero_le _,fin _ ?_ _ _⟩
   unfold repS
   rw[show n.toNat=0 by omega]
   rfl
  ·rw[if_neg k1]
   by_cases k2:(n==1||z.length==0)=true
   ·rw[if_pos k2]
    refine fin _ ?_ _ s.toks
    rcases Bool.or_eq_true_iff.mp k2 with k|k
    ·have e:n=1:=by simpa using k
     subst e
     show z=⟨#[]++z.cps⟩
     simp
    ·have e:z.cps.size=0:=(show z.length=0 from eq_of_beq k)
     have e1:=repS_len z n
     rw[e,Nat.mul_zero]at e1
     have a1:z.cps= #[]:=Array.eq_empty_of_size_eq_zero e
     have a2:(repS z n).cps= #[]:=Array.eq_empty_of_size_eq_zero e1
     have:z.cps=(repS z n).cps:=a1.trans a2.symm
     exact strExt this
   ·rw[if_neg k2]
    refine⟨?_,fin _ rfl _ _⟩
    show(repS z n).cps.size<=sizeLine
    rw[repS_len]
    exact h4
end L2
namespace GP
open PySem L2 GwM
theorem z4v{x:Str}{lo hi:Option Int}{a b:Nat}(e:PySem.Builtin.Str.strSliceIndices lo hi 1 x.length=PySem.Builtin.Str.strSliceIndices (some (a:Int)) (some (b:Int)) 1 x.length)(hab:a<=b)(hb:b<=x.cps.size):(Txt.slice x lo hi).cps.toList=(x.cps.toList.drop a).take (b-a):=by
 have hb':b<=x.length:=hb
 have f:=StrLaws.sliced_plain x hab hb'
 unfold Txt.slice
 rw[e]
 split
 ·next h =>
  have hl:(PySem.Builtin.Str.strSliceIndices (some (a:Int)) (some (b:Int)) 1 x.length).length=x.length:=by simpa using h
  rw[StrLaws.strSliceIndices_plain hab hb',List.length_map,List.length_range]at hl
  have hl':b-a=x.cps.size:=hl
  have ha:a=0:=by omega
  subst ha
  rw[List.drop_zero,List.take_of_length_le (by rw[Array.length_toList];omega)]
 ·exact f
theorem slice_lo{x:Str}{k:Int}(h0:0<=k)(h1:k<=(x.cps.size:Int)):(Txt.slice x none (some k)).cps.toList=x.cps.toList.take k.toNat:=by
 obtain⟨n,rfl⟩:∃n:Nat,k=(n:Int):=⟨k.toNat,(Int.toNat_of_nonneg h0).symm⟩
 have e:=z4v (x:=x) (lo:=none) (hi:=some (n:Int)) (a:=0) (b:=n) (by
  simp only[PySem.Builtin.Str.strSliceIndices]
  simp
  rw[show max (0:Int) (min 0 (x.length:Int))=0 by omega]) (Nat.zero_le _) (by omega)
 rw[e,List.drop_zero]
 rfl
theorem slice_hi{x:Str}{k:Int}(h0:0<=k)(h1:k<=(x.cps.size:Int)):(Txt.slice x (some k) none).cps.toList=x.cps.toList.drop k.toNat:=by
 obtain⟨n,rfl⟩:∃n:Nat,k=(n:Int):=⟨k.toNat,(Int.toNat_of_nonneg h0).symm⟩
 have e:=z4v (x:=x) (lo:=some (n:Int)) (hi:=none) (a:=n) (b:=x.cps.size) (by
  have hl:x.length=x.cps.size:=rfl
  simp only[PySem.Builtin.Str.strSliceIndices,hl]
  simp
  rw[if_neg (show ¬(x.cps.size:Int)<0 by omega),show max (0:Int) (min (x.cps.size:Int) (x.cps.size:Int))=(x.cps.size:Int) by omega]) (by omega) (Nat.le_refl _)
 rw[e,List.take_of_length_le (by rw[List.length_drop,Array.length_toList];omega)]
 rfl
def fldS(i j:Nat):List (Str×V):=q1b "place" (.int j) (q1b "row" (.int i) [])
theorem fldS_row{i j:Nat}:(fldS i j).lookup ("row" :Str)=some (.int i):=by
 unfold fldS
 rw[q0f,if_neg (by decide +kernel),q0f,if_pos rfl]
theorem fldS_place{i j:Nat}:(fldS i j).lookup ("place" :Str)=some (.int j):=by
 unfold fldS
 rw[q0f,if_pos rfl]
end GP
namespace GP
open PySem L2 GwM
end GP
namespace L2
open PySem PySem.Spec PyProof.Rows PySem.Builtin PySem.Builtin.Str
end L2
namespace GP
open PySem L2 GwM
theorem q8m(x y:Str):(x++y).cps.toList=x.cps.toList++y.cps.toList:=by
 show(x.cps++y.cps).toList=_
 rw[Array.toList_append]
theorem q8c(x y:Str):(x++y).cps.size=x.cps.size+y.cps.size:=by
 rw[←Array.length_toList,q8m,List.length_append,Array.length_toList,Array.length_toList]
theorem slice_up(x:Str)(b:Nat):(Txt.slice x none (some (b:Int))).cps.toList=x.cps.toList.take b:=by
 have hl:x.cps.toList.length=x.cps.size:=Array.length_toList
 have e:=z4v (x:=x) (lo:=none) (hi:=some (b:Int)) (a:=0) (b:=min b x.cps.size) (by
  have hl:x.length=x.cps.size:=rfl
  simp only[PySem.Builtin.Str.strSliceIndices,hl]
  simp
  rw[if_neg (by omega),if_neg (by omega)]
  congr 2<;>omega) (by omega) (by omega)
 rw[e,List.drop_zero,Nat.sub_zero]
 by_cases h1:b<=x.cps.size
 ·rw[Nat.min_eq_left h1]
 ·rw[Nat.min_eq_right (by omega),List.take_of_length_le (by omega),List.take_of_length_le (by omega)]
end GP
namespace GP
open PySem L2 GwM
end GP
namespace GP
open PySem L2 GwM
end GP
namespace L2
open PySem PySem.Spec PyProof.Rows
def ItD(lo:Int)(n:Nat):It:=⟨λi _=>i<n,λi H x H'=>H'=H/\x= .int (lo-i),λi _=>n<=i⟩
theorem turn_rangeD{P:Program}{w:World}{K:PySem.W.Frag}{tg:Expr}(it:Addr)(lo:Int)(n:Nat):Turn P w K tg (ItD lo n) [it] it (λi h=>IsRangeIter h it (lo+(i:Nat)*(-1)) ((n:Int)-(i:Nat)) (-1)) where
 mem:=by simp
 obj:=λi h st b hb=>by
  have e:b=it:=by simpa using hb
  subst e
  exact⟨_,st,λv z=>by
   have z':Data.fields _=Data.cell v:=z
   cases z'⟩
 keep:=λi h h' st k=>k it (by simp) _ st
 item:=by
  intro X hP hw hK hc i pins s σ H E I hf st hg
  subst hP hw hK
  obtain⟨f0,f1,f2,f3,f4,f5⟩:=hf it (by simp)
  have W:=Walks.range (prog:=X.prog) (w:=X.w) (I.ok.hd hc) it lo (-1) n
  refine TK.wpAny_up (Nat.le_refl s.toks) (W.item i s _ _ hg st λv h' tk hv st' kk hup=>?_)
  obtain⟨t,rfl⟩:=hv
  have I1:Inv X pins σ H { s with heap:=h',toks:=tk }:=I.turned (λb o hb e=>kk b o (by simpa using hb) e) f0 f1 f3 f4 f5
  refine⟨_,rfl,go_of (s:={ s with heap:=h',toks:=tk }) (n:= "range_iterator") st' rfl rfl (by decide) ⟨.int (lo-i),H,I1,⟨t,?_⟩,⟨rfl,rfl⟩,st',λb hb=>(hf b hb).1⟩⟩
  rw[Int.mul_neg,Int.mul_one,Int.sub_eq_add_neg]
 done:=by
  intro X hP hw hK hc i pins s σ H E I hf st hg
  subst hP hw hK
  obtain⟨f0,f1,f2,f3,f4,f5⟩:=hf it (by simp)
  exact wpAny_pyNext_range_end (I.ok.hd hc) st (by have:n<=i:=hg;omega) λh' eb=>⟨rfl,I.turned (t':=s.toks) (λb o hb e=>eb b o hb e) f0 f1 f3 f4 f5⟩
 self:=λ_ _ _ _ _ st h=>wpAny_pyIter_rangeiter st h
theorem size_down(lo hi:Int):Builtin.Range.rangeSize lo hi (-1)=(((lo-hi).toNat:Nat):Int):=by
 unfold Builtin.Range.rangeSize
 rw[if_neg (by decide)]
 split
 ·rw[show(-(-1:Int))=1 from rfl,Int.ediv_one];omega
 ·omega
theorem small_down{a b:Int}(ha: -(2 ^ 62)<=a)(ha':a<2 ^ 62)(hb: -(2 ^ 62)<=b)(hb':b<2 ^ 62):Builtin.Range.small a b (-1)=true:=by
 unfold Builtin.Range.small
 rw[size_down]
 simp only[Builtin.Range.rangeFitsLong,Bool.and_eq_true,Bool.or_eq_true,decide_eq_true_eq,beq_iff_eq,show ¬(-1:Int)>0 by decide,if_false]
 omega
section
variable{X:Cx}{tg:Expr}
theorem range_itD{pins:List (Addr×Obj)}{σ:St}{H:Hp}{s:Shared}{R:It->Hp->Prop}{E:Value->Shared->Prop}{lo hi:Int}{t u v:Tok}{tk:Nat}(I:Inv X pins σ H s)(h1: -(2 ^ 62)<=lo)(h2:lo<2 ^ 62)(h3: -(2 ^ 62)<=hi)(h4:hi<2 ^ 62)
  (q:R (ItD lo (lo-hi).toNat) H) (htk:s.toks<=tk:=by first|exact Nat.le_refl _|exact Nat.le_succ _|assumption|omega):wpAny (model X.prog X.w) X.A (pyIter (.ref s.heap.objs.size)) (PIE X pins σ tg R) E { s with heap:=s.heap.push { cls:=.type "range",data:=.fields #[.int lo t,.int hi u,.int (-1) v] },toks:=tk }:=by
 refine wpAny_pyIter_range (IsRange.new ..) (small_down h1 h2 h3 h4) ?_
 have I1:Inv X pins σ H { s with heap:=s.heap.push { cls:=.type "range",data:=.fields #[.int lo t,.int hi u,.int (-1) v] },toks:=tk }:=I.kept λb o e=>Heap.get?_push_of_some _ e
 refine⟨(s.heap.push { cls:=.type "range",data:=.fields #[.int lo t,.int hi u,.int (-1) v] }).objs.size,[(s.heap.push { cls:=.type "range",data:=.fields #[.int lo t,.int hi u,.int (-1) v] }).objs.size],_,_,H,rfl,
  I1.kept (t':=tk) λb o e=>Heap.get?_push_of_some _ e,turn_rangeD _ lo (lo-hi).toNat,?_,λb hb=>?_,q⟩
 ·have e1:lo+((0:Nat):Int)*(-1)=lo:=by simp
  have e2:(((lo-hi).toNat:Nat):Int)-((0:Nat):Int)=Builtin.Range.rangeSize lo hi (-1):=by rw[size_down];omega
  show IsRangeIter _ _ (lo+((0:Nat):Int)*(-1)) ((((lo-hi).toNat:Nat):Int)-((0:Nat):Int)) (-1)
  rw[e1,e2]
  exact Heap.get?_push_size _ rfl
 ·have e:b=(s.heap.push { cls:=.type "range",data:=.fields #[.int lo t,.int hi u,.int (-1) v] }).objs.size:=by simpa using hb
  subst e
  exact I1.fpOk (Nat.le_refl _) (I1.hok.fresh (Nat.le_refl _))
def iRng3(ta:TA):TI:=λσ H R=>ta σ H λvs H1=>∃i j:Int,vs=[.int i,.int j,.int (-1)]/\(-(2 ^ 62)<=i/\i<2 ^ 62/\ -(2 ^ 62)<=j/\j<2 ^ 62)/\R (ItD i (i-j).toNat) H1
theorem pi_range3 {a b c:Expr} {ta:TA} {p pos:Pos} (hg:Gl X "range") (hm:X.mg "range" =none) (ha:PA X [a,b,c] ta) (hs:starEach [a,b,c] X.env=[(false,eval a X.env),(false,eval b X.env),(false,eval c X.env)]:=by rfl) (hs2:starEach [b,c] X.env=[(false,eval b X.env),(false,eval c X.env)]:=by rfl) :
  PI X tg (.Call (.Name "range" p) [a,b,c] [] pos) (iRng3 ta):=by
 intro pins s σ H R I h
 refine Call_ (q9w I hg hm boot_range (PyProof.Rows.callWith_type1 (thn (ha pos pins s σ H _ I h) λus s1 ⟨vs,H1,I1,r1,q1⟩=>?_) (by rw[hs,hs2]) (by rw[hs2];rfl)))
 obtain⟨i,j,e,⟨q1,q2,q3,q4⟩,q⟩:=q1
 subst e
 cases r1 with
 |cons r rr =>
  cases rr with
  |cons r' rr =>
   cases rr with
   |cons r'' rr =>
    cases rr
    obtain⟨t,rfl⟩:=r
    obtain⟨t',rfl⟩:=r'
    obtain⟨t'',rfl⟩:=r''
    exact call_range_3 (by decide) (range_itD I1 q1 q2 q3 q4 q) (.inl (PyProof.noPylong_small (by decide)))
end
theorem for_down{lo:Int}{n:Nat}{g:TG}{tb:TS}{D:Ends}{σ:St}{H:Hp}(Pv:Nat->St->Hp->Prop)(h0:Pv 0 σ H)
  (hs:∀i σ H,i<n->Pv i σ H->g (.int (lo-i)) σ H λσ2 H2=>tb { D with nx:=Pv (i+1),ct:=Pv (i+1),bk:=D.nx } σ2 H2) (hd:∀ σ H,Pv n σ H->D.nx σ H) :
  ∃W:Nat->Nat->St->Hp->Prop,(∃m,W 0 m σ H)/\∀i m σ H,W i m σ H →
   ((ItD lo n).stop i H/\D.nx σ H)\/((ItD lo n).go i H/\∃N:St->Hp->Prop,(∀ σ' H',N σ' H'->∃m',m'<m/\W (i+1) m' σ' H')/\∀x H',(ItD lo n).yld i H x H'->g x σ H' λσ2 H2=>tb { D with nx:=N,ct:=N,bk:=D.nx } σ2 H2):=by
 refine⟨λi m σ H=>m=n-i/\i<=n/\Pv i σ H,⟨n,by simp,Nat.zero_le _,h0⟩,?_⟩
 rintro i m σ H ⟨rfl,hi,p⟩
 by_cases hlt:i<n
 ·refine .inr ⟨hlt,Pv (i+1),λσ' H' p'=>⟨n-(i+1),by omega,rfl,hlt,p'⟩,λx H' y=>?_⟩
  obtain⟨e,y⟩:=y
  subst e y
  exact hs i σ _ hlt p
 ·have e:i=n:=by omega
  subst e
  exact .inl ⟨Nat.le_refl _,hd σ H p⟩
end L2
namespace GP
open PySem L2 GwM
end GP
namespace L2
open PySem PySem.Spec PyProof.Rows
def tokAll(K:PySem.W.Frag)(t:Nat):Bool:=match K.lookup mainGlobals with
 |some ⟨_,_,.dict es _,_⟩=>es.all λe=>match e.val with| .str _ u=>Nat.blt u t&& !(Nat.beq u 0)|_=>true
 |_=>false
theorem findBy_mem{f:Str->Value->Bool}{es:Array DictEntry}{n:Str}{v:Value}(h:PySem.findBy f es n=some v):∃e∈es,e.val=v:=by
 unfold PySem.findBy at h
 obtain⟨e,he,rfl⟩:=Option.map_eq_some_iff.mp h
 exact⟨e,Array.mem_of_find?_eq_some he,rfl⟩
theorem tokB_of{K:PySem.W.Frag}{h:Heap}{mg:Str->Option Value}{t:Nat}(KX:K.In h)(hns:h.Ns mainGlobals mg)(c:tokAll K t=true):TokB mg t:=by
 obtain⟨o,es,ep,e,d,_,hm⟩:=hns
 unfold tokAll at c
 split at c
 ·rename_i cl dd es' ep' sl hl
  have e':=KX _ _ hl
  rw[e]at e'
  cases e'
  cases d
  intro x v u hx
  obtain⟨en,hen,ev⟩:=findBy_mem ((hm x).trans hx)
  have z:=Array.all_eq_true'.mp c en hen
  rw[ev]at z
  simp only[Bool.and_eq_true,Nat.blt_eq,Bool.not_eq_true']at z
  exact⟨z.1,λq=>by rw[q]at z;exact absurd z.2 (by decide)⟩
 ·cases c
theorem walk_ofZ{l:PySem.W.OpenLaw}{n k N t:Nat}{q:Program}{loose:List Str}{XP:(Str->Option Value)->Heap->Prop}{as:List Addr}{d:DefRec}{K:Params->PySem.W.Frag}{CX:World->CXT}{sp:World->Sp}{x:Str}
  (hn:l.most=some n) (hn2:n<=sizeLine) (hdf:d.params.defaults=[]) (hr:Room k callerA)
  (hk:∀P,as=(K P).map (·.1)) (ht:∀P,tokAll (K P) t=true)
  (F:∀(w:World) (mg:Str->Option Value) (fa:Addr) (h:Heap),(K w.params).In h->h.Ns mainGlobals mg->mg d.name=some (.ref fa) →
   ∃fd:FuncData,(∀(s:Shared) (u:Value),BindsTo s fd ⟨[u],[]⟩ [(x,u)]) ∧
    ∀base:Heap,(K w.params).In base->base.Ns mainGlobals mg->FnOk l.prog w (K w.params) mg base (CX w) k fa fd [x] (sp w))
  (hsp:∀(w:World) (H:Hp) (a:Addr) (ns:List Int),ns.length<=n->Only H->SqL (K w.params) H a (ns.map V.int)->sp w [.ref a] H (λv _=>v= .bl true) λ_ _ _=>False)
  (hCX:∀(w:World) (H:Hp) (s:Shared) (e:Value) (s':Shared),CX w [] H s (λ_ _ _=>False) e s'->False) :
  PySem.W.WalkX q loose XP (PySem.W.X.obsZ as) (PySem.W.X.valZ K N t) l.row.toRowW d [] (λf vs=>PySem.call f vs):=by
 intro w s₀ s₁ mg mb G y fa o pm cd doc dV kV ho hd hcd hD hmg hg args vals as' L hpre hlay hrd hwl hlo
 have Z:=PySem.W.X.z_facts hk y
 have tk:t<=s₁.toks:=by
  obtain⟨ord,_,e⟩:=L.laid
  have g:=(PySem.W.layAllW_grows _ _ _ e).toks
  rw[Z.2.2.2]at g
  exact g
 have KX:(K w.params).In s₁.heap:=PySem.W.InK.keeps w s₀.heap s₁.heap Z.2.1 L.keeps
 obtain rfl:dV= .none:=PySem.W.Dflts.none hD hdf
 obtain rfl:kV= .none:=PySem.W.Dflts.noKw hD
 obtain⟨a,vs,ns,rfl,rfl,hobj,hints,hlen⟩:=Att.script_of hn hpre hwl
 obtain⟨fd,hb,hF⟩:=F w mg fa _ KX G.T.g hmg
 refine PySem.W.enter_call (codeAny_mono (law_call KX G.T.g G.T.b G.T.builtins G.T.nolimit hg ((tokB_of KX G.T.g (ht _)).mono tk) hobj hints (Nat.le_trans hlen hn2) hr hF hb (λH hO hS=>hsp w H a ns hlen hO hS) λH e s'=>hCX w H s₁ e s') λr s' hq=>?_)
 obtain⟨rfl,h2,h3,h4⟩:=hq
 exact⟨.inl ⟨.bool true,.bool true,[],rfl,λ_=>rfl,.bool true,Att.post_true l _,λ_=>⟨List.Pairwise.nil,λ_ hm=>(nomatch hm)⟩⟩,h2,h3,h4⟩
end L2
namespace L2
open PySem PySem.Spec PyProof.Rows
def q3b(c:Nat)(z:Str):Str:=⟨(z.cps.toList.filter (· != c)).toArray⟩
theorem replace_is(z:Str)(c:Nat):Txt.replace z ⟨#[c]⟩ ⟨#[]⟩=q3b c z:=by
 have h:=replace_strikes z c
 unfold q3b
 rw[←h]
def tStrike(c:Nat)(to:TE):TE:=λσ H Q=>to σ H λx H1=>∃z:Str,x= .str z/\z.cps.size<=1000000/\Q (.str (q3b c z)) H1
section
variable{X:Cx}{o:Expr}{to:TE}{g:Str}{c j:Nat}{u:Tok}{apos cpos p1 p2:Pos}
theorem pe_strike(ho:PE X o to)(hg:Gl X g)(hmg:X.mg g=some (.str ⟨#[c]⟩ u))
  (hbase:attributeBase o "replace" X.env (eval o X.env)=eval o X.env:=by rfl)
  (hfew:((backTo cpos (starEach [.Name g p1,.Constant (.str "") j p2] X.env)).all (λx=>!x.1)&&(backToKw cpos (keywordEach [] X.env)).all (λx=>x.1.isSome)
   && decide (([.Name g p1,.Constant (.str "") j p2]:List Expr).length+([]:List Keyword).length+(if([]:List Keyword).isEmpty then 0 else 1)<30))=true:=by rfl)
  (hline:(apos.endLine==cpos.line)=true:=by rfl) (hs:starEach [.Name g p1,.Constant (.str "") j p2] X.env=[(false,eval (.Name g p1) X.env),(false,eval (.Constant (.str "") j p2) X.env)]:=by rfl)
  (hd:(g==("__debug__" :Str))=false:=by decide) :
  PE X (.Call (.Attribute o "replace" apos) [.Name g p1,.Constant (.str "") j p2] [] cpos) (tStrike c to):=by
 intro pins s σ H Q I h
 refine wpAny_Call_method_late hbase hfew hline rfl (thn (ho pins s σ H _ I h) λv s1 ⟨x,H1,I1,r1,q1⟩=>?_)
 obtain⟨z,rfl,hz,q⟩:=q1
 obtain⟨h1,h2⟩:=tyV_is (T:= "str") I1 r1 rfl
 obtain⟨t,rfl⟩:=r1
 refine⟨"str",_,F.plainAttrs_str,F.slot_str_replace,F.type_str_replace,h1,h2,?_⟩
 rw[hs]
 refine Calls.callWith_builtin rfl (Calls.evalArgs_plain ?_)
 refine Calls.spliced_cons (q7f I1 hg hmg ?_ hd)
 show wpAny _ _ (spliced [(false,eval (.Constant (.str "") j p2) X.env)]) _ _ s1
 refine Calls.spliced_cons (Calls.Constant_str (Calls.spliced_nil ?_))
 obtain⟨k1,k2⟩:=I1.tk g _ _ hmg
 have I2:Inv X pins σ H1 { s1 with toks:=s1.toks+1 }:=I1.tok _
 refine TK.wpAny_up (Nat.le_refl (s1.toks+1)) (SC.replace (s:={ s1 with toks:=s1.toks+1 }) k2 (Nat.ne_of_gt (Nat.lt_of_le_of_lt (Nat.zero_le u) k1)) (Nat.ne_of_lt k1) ?_ ?_ λt' k hk=>?_)
 ·show(((⟨#[c]⟩:Str))==((⟨#[]⟩:Str)))=false
  exact beq_eq_false_iff_ne.mpr λe=>by cases e
 ·show z.cps.size+(z.cps.size+1)*0<=16777216
  omega
 ·refine⟨.str (q3b c z),H1,I2.tok k hk,⟨t',?_⟩,q⟩
  rw[←replace_is];rfl
end
end L2
namespace L2
open PySem PySem.Spec PyProof.Rows
abbrev sg(c:Nat):V:=.str ⟨#[c]⟩
theorem z4a:∀{cs:List Nat} {us:List Value},Vals (cs.map sg) us->∃l:List (Str×Tok),us=strValues l/\l.map (·.1)=cs.map λc=>(⟨#[c]⟩:Str)
 |[],_,.nil=>⟨[],rfl,rfl⟩
 |c::cs,_,.cons r rs=>by
  obtain⟨t,e⟩:=r
  obtain⟨l,e1,e2⟩:=z4a rs
  exact⟨(⟨#[c]⟩,t)::l,by rw[e,e1];rfl,by rw[List.map_cons,e2];rfl⟩
theorem fold_ones:∀(l:List Nat) (n:Nat),(l.map λc=>(⟨#[c]⟩:Str)).foldl (λa (x:Str)=>a+x.length+(⟨#[]⟩:Str).length) n=n+l.length
 |[],_=>rfl
 |c::l,n=>by
  rw[List.map_cons,List.foldl_cons,fold_ones l]
  show n+1+0+l.length=n+(l.length+1)
  omega
theorem pi_listK{X:Cx}{K':PySem.W.Frag}{tg l:Expr}{tl:TE}(hK:X.K=K')(hl:PE X l tl):PI X tg l (iList K' tl):=by subst hK;exact q2s hl
theorem mt_joinK{X:Cx}{K':PySem.W.Frag}(hK:X.K=K'):MtR X "str.join" (λx xs H Q=>∃(l:Addr) (cs:List Nat),x= .str ⟨#[]⟩/\xs=[.ref l]/\SqL K' H l (cs.map sg)/\cs.length<=100000/\Q (.str ⟨cs.toArray⟩) H):=by
 subst hK
 intro pins s σ H x xs v us Q I rx rs h
 obtain⟨l,cs,rfl,rfl,hl,hn,q⟩:=h
 obtain⟨t,rfl⟩:=rx
 cases rs with
 |cons r rr =>
  cases rr
  cases r
  obtain⟨its,r1,t1,_⟩:=I.list hl
  obtain⟨ls,e1,e2⟩:=z4a r1
  refine TK.wpAny_up (Nat.le_refl s.toks) (SC.join (l:=ls) (by rw[←e1];exact t1.isList) e2 ?_ λt' k hk=>⟨.str ⟨cs.toArray⟩,H,I.tok k hk,⟨t',?_⟩,q⟩)
  ·unfold JoinOk
   rw[List.foldl_toArray,fold_ones]
   unfold Builtin.Str.tooLong
   rw[Bool.not_eq_true',decide_eq_false_iff_not,Nat.zero_add]
   exact Nat.not_lt.mpr (Nat.le_trans hn (by decide))
  ·have e:Txt.join ⟨#[]⟩ (cs.map λc=>(⟨#[c]⟩:Str))=⟨cs.toArray⟩:=by
    show Builtin.Str.glued _ _=_
    rw[StrLaws.glued_eq_join,join_ones]
   rw[e]
theorem mt_join{X:Cx}:MtR X "str.join" (λx xs H Q=>∃(l:Addr) (cs:List Nat),x= .str ⟨#[]⟩/\xs=[.ref l]/\SqL X.K H l (cs.map sg)/\cs.length<=100000/\Q (.str ⟨cs.toArray⟩) H):=mt_joinK rfl
theorem op_eqL{X:Cx}(hu:X.A.units<cLine):OpR X (compareOp .Eq) (λx y H Q=>∃p q xs ys,x= .ref p/\y= .ref q/\SqL X.K H p xs/\SqL X.K H q ys/\xs.length=ys.length/\xs.all q8k=true/\ys.all q8k=true/\Q (.bl (q6m xs ys)) H):=by
 intro pins s σ H x y v u Q I rx ry h
 obtain⟨p,q,xs,ys,rfl,rfl,hp,hq,hl,fx,fy,k⟩:=h
 cases rx
 cases ry
 obtain⟨us,r1,t1,_⟩:=I.list hp
 obtain⟨vs,r2,t2,_⟩:=I.list hq
 have hsz:us.toArray.size=vs.toArray.size:=by rw[List.size_toArray,List.size_toArray,←r1.length,←r2.length,hl]
 refine SeqAt.RcAt.lists (A:=X.A) (s:=s) t1.isList t2.isList hsz hu (flat_at r1 r2 fx fy) X.prog X.w X.xe _ ⟨.bl (q6m xs ys),H,I,?_,k⟩
 unfold q6m
 have e1:min xs.length ys.length=us.toArray.size:=by rw[←hl,Nat.min_self,r1.length,List.size_toArray]
 have e2:(xs.length==ys.length)=true:=by rw[hl];exact beq_self_eq_true _
 rw[e1,e2,Bool.and_true]
 rfl
end L2
namespace L2
open PySem PySem.Spec PyProof.Rows
def nv(sp:Sp):Sp:=λvs H Q _=>sp vs H Q λ_ _ _=>False
theorem FnOk.nv{P:Program}{w:World}{K:PySem.W.Frag}{mg:Str->Option Value}{base:Heap}{k:Nat}{f:Addr}{fd:FuncData}{ps:List Str}{sp:Sp}(F:FnOk P w K mg base (CXs P w) k f fd ps sp):FnOk P w K mg base CX0 k f fd ps (nv sp) :=
 ⟨λvs H Q E q=>F.len vs H Q _ q,λA outer s H args us vs Q E hr he hb hv hs=>codeAny_mono (F.run A outer s H args us vs Q _ hr he hb hv hs) λr s' h=>by
  cases r with
  |error e=>obtain⟨ea,cls,od,H',h⟩:=h;exact(h.2.2.2.2.2.2.2:False).elim
  |ok fl=>cases fl<;>exact h⟩
theorem q4q{J:It}{g:TG}{te:TE}{σ':St}{H1:Hp}{D:Hp->Prop}{l:Addr}(n:Nat)(f:Nat->V)(hl:H1 l=none)(hn:n<sizeLine)
  (go:∀i H,Same H1 H->i<n->J.go i H) (st:∀H,Same H1 H->J.stop n H)
  (el:∀i x H H3 (R:VK),Same H1 H->i<n->J.yld i H x H3->(∀H5,Same H H5->R (f i) H5)->g x σ' H3 λσ4 H4=>Kp σ' σ4/\te σ4 H4 R)
  (fin:∀H',Same H1 H'->H' l=some (.lst ((List.range n).map f))->D H') :
  ∃W:Nat->Nat->List V->Hp->Prop,(∃m,W 0 m [] (upd H1 l (.lst [])))/\∀i m ys H2,W i m ys H2->(J.stop i H2/\D H2) ∨
   (J.go i H2/\∀x H3,J.yld i H2 x H3->g x σ' H3 λσ4 H4=>Kp σ' σ4/\te σ4 H4 λy H5=>H5 l=some (.lst ys)/\ys.length<sizeLine/\∃m',m'<m/\W (i+1) m' (ys++[y]) (upd H5 l (.lst (ys++[y])))):=by
 refine⟨λi m ys H2=>m=n-i/\i<=n/\ys=(List.range i).map f/\Same H1 H2/\H2 l=some (.lst ys),⟨n,rfl,Nat.zero_le _,rfl,GP.Same.upd hl,upd_same⟩,?_⟩
 rintro i m ys H2 ⟨rfl,hi,rfl,s2,h2⟩
 by_cases hlt:i<n
 ·refine .inr ⟨go i H2 s2 hlt,λx H3 y=>el i x H2 H3 _ s2 hlt y λH5 s5=>?_⟩
  refine⟨s5 _ _ h2,by rw[List.length_map,List.length_range];omega,n-(i+1),by omega,rfl,hlt,?_,GP.Same.at (s2.trans s5) hl,upd_same⟩
  rw[List.range_succ,List.map_append];rfl
 ·have e:i=n:=by omega
  subst e
  exact .inl ⟨st H2 s2,fin H2 s2 h2⟩
end L2
namespace GP
open PySem L2 GwM
def Rw(K:PySem.W.Frag)(H:Hp)(v:V)(rs:List Str):Prop:=∃a,v= .ref a/\(SqL K H a (rs.map V.str)\/SqT K H a (rs.map V.str))
theorem Rw.same{K:PySem.W.Frag}{H H':Hp}{v:V}{rs:List Str}(h:Rw K H v rs)(e:Same H H'):Rw K H' v rs:=by
 obtain⟨a,h1,h2⟩:=h
 exact⟨a,h1,h2.imp (Same.seq e) (Same.tup e)⟩
theorem Rw.cp{K:PySem.W.Frag}{H:Hp}{v:V}{rs:List Str}(h:Rw K H v rs):∃c:Cp,v=c.val/\∀H',Same H H'->c.at K H' (rs.map V.str):=by
 obtain⟨a,rfl,h|h⟩:=h
 ·exact⟨.lst a,rfl,λH' e=>Same.seq e h⟩
 ·exact⟨.tup a,rfl,λH' e=>Same.tup e h⟩
theorem Rw.len{K:PySem.W.Frag}{H:Hp}{v:V}{rs:List Str}(h:Rw K H v rs):LenV K v H rs.length:=by
 obtain⟨a,rfl,h|h⟩:=h
 ·exact .inl ⟨_,h,by rw[List.length_map]⟩
 ·exact .inr ⟨_,h,by rw[List.length_map]⟩
theorem Rw.ix{K:PySem.W.Frag}{H:Hp}{v:V}{rs:List Str}{i:Nat}{r:Str}{Q:VK}(h:Rw K H v rs)(e:rs[i]? =some r)(q:Q (.str r) H):rIx K v (.int (i:Int)) H Q:=by
 obtain⟨a,rfl,h|h⟩:=h
 ·exact .inl ⟨a,_,_,_,rfl,rfl,h,q0q (by rw[List.getElem?_map,e];rfl),q⟩
 ·exact .inr (.inl ⟨a,_,_,_,rfl,rfl,h,q0q (by rw[List.getElem?_map,e];rfl),q⟩)
structure SmR(rs:List Str):Prop where
 len:rs.length<=100
 row:∀r∈rs,r.cps.size<=1000
def q6k(rs:List Str)(n:Nat):List Nat:=rs.map λr=>r.cps.toList.getD n 0
def colS(rs:List Str)(n:Nat):Str:=⟨(q6k rs n).toArray⟩
def cols(rs:List Str)(n:Nat):List Str:=(List.range n).map (colS rs)
def q7g(x:Str):Bool:=x.cps.toList.all (·==45)
def q4r(x:Str):Bool:=(q3b 45 x).cps.toList.all q2g
def lenB:List Str->Bool
 |[]=>false
 |r::rs=>(r::rs).all λx=>x.cps.size==r.cps.size
def wid(rs:List Str):Nat:=(rs.headD ⟨#[]⟩).cps.size
def colsB(rs:List Str):Bool:=(cols rs (wid rs)).all λc=>!q7g c
def q2y(rs:List Str):Bool:=lenB rs&&(rs.all q4r&&colsB rs)
theorem q2j{rs:List Str}:lenB rs=true↔rs≠[]/\∀r∈rs,r.cps.size=wid rs:=by
 cases rs with
 |nil=>exact⟨λh=>(by cases h),λh=>absurd rfl h.1⟩
 |cons r rs =>
  show((r::rs).all λx=>x.cps.size==r.cps.size)=true↔_
  rw[List.all_eq_true]
  exact⟨λh=>⟨by simp,λx hx=>eq_of_beq (h x hx)⟩,λh x hx=>beq_iff_eq.mpr (h.2 x hx)⟩
theorem gaps_eq{x:Str}:decide (V.str x=V.str (repS (Str.ofString "-") (x.length:Nat)))=q7g x:=by
 have e:(repS (Str.ofString "-") (x.length:Nat)).cps.toList=List.replicate x.cps.toList.length 45:=by
  rw[z2m]
  show(List.replicate x.cps.size [45]).flatten=_
  rw[Array.length_toList]
  generalize x.cps.size=n
  induction n with
  |zero=>rfl
  |succ n ih=>rw[List.replicate_succ,List.flatten_cons,ih,List.replicate_succ];rfl
 rw[Bool.eq_iff_iff,decide_eq_true_iff]
 unfold q7g
 rw[List.all_eq_true]
 refine⟨λh c hc=>?_,λh=>?_⟩
 ·injection h with h
  rw[h,e]at hc
  exact beq_iff_eq.mpr (List.eq_of_mem_replicate hc)
 ·have z:x.cps.toList=List.replicate x.cps.toList.length 45:=List.eq_replicate_of_mem λc hc=>eq_of_beq (h c hc)
  rw[←e]at z
  have:x.cps=(repS (Str.ofString "-") (x.length:Nat)).cps:=Array.toList_inj.mp z
  have e2:x=repS (Str.ofString "-") (x.length:Nat):=by
   rcases h3:repS (Str.ofString "-") (x.length:Nat)with⟨cs⟩
   rw[h3]at this
   rcases x with⟨xs⟩
   exact congrArg Str.mk this
  rw[←e2]
def z4d(K:PySem.W.Frag):Sp:=λvs H Q _=>∃(v:V) (rs:List Str) (n:Nat),vs=[v,.int n]/\Rw K H v rs/\SmR rs/\(∀r∈rs,n<r.cps.size)/\∀H',Same H H'->Q (.str (colS rs n)) H'
def z4r(K:PySem.W.Frag):Sp:=λvs H Q _=>∃(v:V) (rs:List Str) (n:Nat),vs=[v,.int n]/\Rw K H v rs/\SmR rs/\n<=1000/\(∀r∈rs,n<=r.cps.size) ∧
 ∀l H',Same H H'->H l=none->H' l=some (.lst ((cols rs n).map V.str))->Q (.ref l) H'
def q9e(K:PySem.W.Frag):Sp:=λvs H Q _=>∃(v:V) (rs:List Str),vs=[v]/\Rw K H v rs/\SmR rs/\lenB rs=true ∧
 ∀l H',Same H H'->H l=none->H' l=some (.lst ((cols rs (wid rs)).map V.str))->Q (.ref l) H'
def spIsGaps:Sp:=λvs H Q _=>∃x:Str,vs=[.str x]/\x.cps.size<=1000/\Q (.bl (q7g x)) H
def q9d:Sp:=λvs H Q _=>∃x:Str,vs=[.str x]/\x.cps.size<=1000/\Q (.str (q3b 45 x)) H
def z2j:Sp:=λvs H Q _=>∃x:Str,vs=[.str x]/\x.cps.size<=1000/\∀H',Same H H'->Q (.bl (q4r x)) H'
def spChk(K:PySem.W.Frag)(C:Addr)(pre p:List Str->Bool):Sp:=λvs H Q E=>∃(v:V) (rs:List Str),vs=[v]/\Rw K H v rs/\SmR rs/\pre rs=true ∧
 (p rs=true->∀H',Same H H'->Q .non H')/\(p rs=false->∀H',Same H H'->E (.ref C) none H')
def Blk(K:PySem.W.Frag)(C:Addr)(H:Hp)(b:Addr)(rs:List Str):Prop:=∃dx q,H b=some (.ins C dx (q1b "rows" (.ref q) []))/\SqT K H q (rs.map V.str)
theorem Blk.same{K:PySem.W.Frag}{C:Addr}{H H':Hp}{b:Addr}{rs:List Str}(h:Blk K C H b rs)(e:Same H H'):Blk K C H' b rs:=by
 obtain⟨dx,q,h1,h2⟩:=h
 exact⟨dx,q,e _ _ h1,Same.tup e h2⟩
def spBlock(K:PySem.W.Frag)(C X:Addr):Sp:=λvs H Q E=>∃(b dx:Addr) (v:V) (rs:List Str),vs=[.ref b,v]/\H b=some (.ins C dx [])/\Rw K H v rs/\SmR rs ∧
 (q2y rs=true->∀H',(∀a u,H a=some u->a≠b->H' a=some u)->Blk K C H' b rs->Q .non H')/\(q2y rs=false->∀H',Same H H'->E (.ref X) none H')
end GP
namespace L2
open PySem PySem.Spec PyProof.Rows
end L2
namespace GP
open PySem L2 GwM
theorem SqT.offI{K:PySem.W.Frag}{H:Hp}{l a C dx:Addr}{fs:List (Str×V)}{xs:List V}{o:HO}(hl:H l=some (.ins C dx fs))(h:SqT K H a xs):SqT K (L2.upd H l o) a xs:=by
 rcases h with(h|⟨u,h⟩)|h
 ·exact .inl (.inl (by rw[upd_ne (q9r h hl (by intro z;cases z))];exact h))
 ·exact .inl (.inr ⟨u,by rw[upd_ne (q9r h hl (by intro z;cases z))];exact h⟩)
 ·exact .inr h
theorem q6i{q:V}:(q1b "rows" q []).lookup ("rows" :Str)=some q:=by
 rw[q0f,if_pos rfl]
theorem q1v{rs:List Str}{n:Nat}:(cols rs n).length=n:=by unfold cols;rw[List.length_map,List.length_range]
theorem cols_at{rs:List Str}{n i:Nat}(h:i<n):(cols rs n)[i]? =some (colS rs i):=by
 unfold cols
 rw[List.getElem?_map,List.getElem?_range h]
 rfl
theorem z0d{x:Str}:q4r x=true↔∀c∈x.cps.toList,c≠45->q2g c=true:=by
 unfold q4r q3b
 rw[List.all_eq_true]
 refine⟨λh c hc n=>h c ?_,λh c hc=>?_⟩
 ·show c∈x.cps.toList.filter (· != 45)
  exact List.mem_filter.mpr ⟨hc,by simpa using n⟩
 ·have hc':c∈x.cps.toList.filter (· != 45):=hc
  obtain⟨a,b⟩:=List.mem_filter.mp hc'
  exact h c a (by simpa using b)
end GP
namespace GP
open PySem L2 GwM
def okT(c:Nat):Prop:=c=45\/q2g c=true
structure RsOk(rs:List Str)(n i:Nat):Prop where
 len:rs.length=n
 wid:∀r∈rs,r.cps.size=i
 ok:∀r∈rs,∀c∈r.cps.toList,okT c
 col:∀j,j<i->∃r∈rs,∃c,r.cps.toList[j]? =some c/\c≠45
theorem RsOk.w{rs:List Str}{n i:Nat}(h:RsOk rs n i)(hn:0<n):GP.wid rs=i:=by
 cases hr:rs with
 |nil=>have:=h.len;rw[hr]at this;have:0=n:=this;omega
 |cons r t=>exact h.wid r (by rw[hr];exact List.mem_cons_self ..)
theorem RsOk.lenB{rs:List Str}{n i:Nat}(h:RsOk rs n i)(hn:0<n):GP.lenB rs=true:=by
 refine q2j.mpr ⟨λz=>?_,λr hr=>(h.wid r hr).trans (h.w hn).symm⟩
 have:=h.len
 rw[z]at this
 have:0=n:=this
 omega
theorem RsOk.things{rs:List Str}{n i:Nat}(h:RsOk rs n i):rs.all q4r=true :=
 List.all_eq_true.mpr λr hr=>z0d.mpr λc hc hn=>(h.ok r hr c hc).resolve_left hn
theorem gaps_col{rs:List Str}{j:Nat}:q7g (colS rs j)=true↔∀r∈rs,r.cps.toList.getD j 0=45:=by
 unfold q7g colS q6k
 rw[List.all_eq_true]
 refine⟨λh r hr=>eq_of_beq (h _ (List.mem_map.mpr ⟨r,hr,rfl⟩)),λh c hc=>?_⟩
 obtain⟨r,hr,rfl⟩:=List.mem_map.mp (show c∈rs.map λr=>r.cps.toList.getD j 0 from hc)
 exact beq_iff_eq.mpr (h r hr)
theorem RsOk.block{rs:List Str}{n i:Nat}(h:RsOk rs n i)(hn:0<n):q2y rs=true:=by
 unfold q2y
 rw[h.lenB hn,h.things,Bool.true_and,Bool.true_and]
 unfold colsB
 rw[h.w hn,List.all_eq_true]
 intro c hc
 unfold cols at hc
 obtain⟨j,hj,rfl⟩:=List.mem_map.mp hc
 obtain⟨r,hr,c,hc,hne⟩:=h.col j (List.mem_range.mp hj)
 rw[Bool.not_eq_true',Bool.eq_false_iff]
 intro z
 have:=gaps_col.mp z r hr
 rw[List.getD_eq_getElem?_getD,hc]at this
 exact hne this
def grown(rs:List Str)(cs:List Nat)(n:Nat):List Str:=(List.range n).map λr=>rs.getD r ⟨#[]⟩++⟨#[cs.getD r 0]⟩
theorem q0u{α:Type}{l:List α}{i:Nat}{d x:α}(h:l[i]? =some x):l.getD i d=x:=by
 rw[List.getD_eq_getElem?_getD,h];rfl
theorem RsOk.next{rs:List Str}{n i:Nat}{cs:List Nat}(h:RsOk rs n i)(hl:cs.length=n)(ho:∀c∈cs,okT c)(hg:∃c∈cs,c≠45):RsOk (grown rs cs n) n (i+1):=by
 have at_:∀r,r<n->∃x c,rs[r]? =some x/\cs[r]? =some c/\x∈rs/\c∈cs/\rs.getD r ⟨#[]⟩++⟨#[cs.getD r 0]⟩=x++(⟨#[c]⟩:Str):=λr hr=>by
  have h1:r<rs.length:=by rw[h.len];exact hr
  have h2:r<cs.length:=by rw[hl];exact hr
  refine⟨rs[r],cs[r],List.getElem?_eq_getElem h1,List.getElem?_eq_getElem h2,List.getElem_mem h1,List.getElem_mem h2,?_⟩
  rw[q0u (List.getElem?_eq_getElem h1),q0u (List.getElem?_eq_getElem h2)]
 have mem:∀y∈grown rs cs n,∃x c,x∈rs/\c∈cs/\y=x++(⟨#[c]⟩:Str):=λy hy=>by
  unfold grown at hy
  obtain⟨r,hr,rfl⟩:=List.mem_map.mp hy
  obtain⟨x,c,_,_,a,b,e⟩:=at_ r (List.mem_range.mp hr)
  exact⟨x,c,a,b,e⟩
 have app:∀(x:Str) (c:Nat),(x++(⟨#[c]⟩:Str)).cps.toList=x.cps.toList++[c]:=λx c=>by
  rw[Str.cps_append,Array.toList_append]
 refine⟨by unfold grown;rw[List.length_map,List.length_range],λy hy=>?_,λy hy d hd=>?_,λj hj=>?_⟩
 ·obtain⟨x,c,a,b,rfl⟩:=mem y hy
  rw[←Array.length_toList,app,List.length_append,Array.length_toList,h.wid x a]
  rfl
 ·obtain⟨x,c,a,b,rfl⟩:=mem y hy
  rw[app]at hd
  rcases List.mem_append.mp hd with hd|hd
  ·exact h.ok x a d hd
  ·rw[List.mem_singleton.mp hd];exact ho c b
 ·by_cases z:j<i
  ·obtain⟨x,hx,c,hc,hne⟩:=h.col j z
   obtain⟨r,hr,e⟩:=List.getElem_of_mem hx
   have hr':r<n:=by rw[←h.len];exact hr
   obtain⟨x',c',e1,_,_,_,e3⟩:=at_ r hr'
   rw[List.getElem?_eq_getElem hr,e]at e1
   cases e1
   refine⟨_,List.mem_map.mpr ⟨r,List.mem_range.mpr hr',e3⟩,c,?_,hne⟩
   rw[app,List.getElem?_append_left (by rw[Array.length_toList,h.wid x hx];exact z),hc]
  ·have ej:j=i:=by omega
   subst ej
   obtain⟨c,hc,hne⟩:=hg
   obtain⟨r,hr,e⟩:=List.getElem_of_mem hc
   have hr':r<n:=by rw[←hl];exact hr
   obtain⟨x',c',e1,e2,hx',_,e3⟩:=at_ r hr'
   rw[List.getElem?_eq_getElem hr,e]at e2
   cases e2
   refine⟨_,List.mem_map.mpr ⟨r,List.mem_range.mpr hr',e3⟩,c,?_,hne⟩
   have hs:x'.cps.toList.length=j:=by rw[Array.length_toList];exact h.wid x' hx'
   rw[app,List.getElem?_append_right (by omega),hs,Nat.sub_self]
   rfl
end GP
namespace L2
open PySem PySem.Spec PyProof.Rows
end L2
namespace GP
open PySem L2 GwM
theorem tupEq_self{xs:List Str}:q6m (xs.map V.str) (xs.map V.str)=true:=by
 unfold q6m
 rw[beq_self_eq_true,Bool.and_true,List.all_eq_true]
 intro j hj
 have hj':j<xs.length:=by
  have:=List.mem_range.mp hj
  rw[Nat.min_self,List.length_map]at this
  exact this
 rw[q0u (show(xs.map V.str)[j]? =some (V.str xs[j]) by rw[List.getElem?_map,List.getElem?_eq_getElem hj'];rfl)]
 show(xs[j]==xs[j])=true
 exact beq_self_eq_true _
theorem flat_strs{xs:List Str}:(xs.map V.str).all q8k=true:=List.all_eq_true.mpr λy hy=>by
 obtain⟨x,_,rfl⟩:=List.mem_map.mp hy
 rfl
theorem sg_strs(cs:List Nat):cs.map sg=(cs.map λc=>(⟨#[c]⟩:Str)).map V.str:=by rw[List.map_map];rfl
theorem z1u(n:Nat)(v:V):(List.replicate n [v]).flatten=List.replicate n v:=by
 induction n with
 |zero=>rfl
 |succ n ih=>rw[List.replicate_succ,List.flatten_cons,ih,List.replicate_succ];rfl
theorem not_all{cs:List Nat}{n:Nat}(hl:cs.length=n)(h:q6m (cs.map sg) (List.replicate n (sg 45))=false):∃c∈cs,c≠45:=by
 by_cases z:∃c∈cs,c≠45
 ·exact z
 ·have e:cs=List.replicate n 45:=List.eq_replicate_iff.mpr ⟨hl,λc hc=>Classical.byContradiction λhne=>z ⟨c,hc,hne⟩⟩
  have e2:List.replicate n (sg 45)=cs.map sg:=by rw[e,List.map_replicate]
  rw[e2,sg_strs,tupEq_self]at h
  cases h
theorem sign_ne{c:Nat}(h:q2g c=true):c≠45:=λz=>by rw[z]at h;exact absurd h (by decide)
end GP
namespace GP
open PySem L2 GwM
end GP
namespace GP
open PySem L2 GwM
end GP
namespace GP
open PySem L2 GwM
def spWith:Sp:=λvs H Q _=>∃(r z:Str) (k:Nat),vs=[.str r,.int (k:Int),.str z]/\k<r.cps.size/\r.cps.size<=1000/\z.cps.size<=100/\∀o:Str,o.cps.toList=r.cps.toList.take k++z.cps.toList++r.cps.toList.drop (k+1)->Q (.str o) H
end GP
namespace GP
open PySem L2 GwM
end GP
namespace GP
open PySem L2 GwM
end GP
namespace L2
end L2
namespace GP
open PySem L2 GwM
structure Da(K:PySem.W.Frag)(mg:Str->Option Value)(x y:Str)(st:Stmt)(ps:List Str)(f:Addr)(fd:FuncData):Prop where
 fn:Fun K y y st f fd
 b:Binds K fd ps []
 m:mg x=some (.ref f)
end GP
namespace L2
open PySem PySem.Spec PyProof.Rows
theorem z2n(ns:List Int):∀n:Nat,preSum (λi=>(ns[i]?).getD 0) n=(ns.take n).sum
 | 0=>rfl
 |n+1=>by
  show preSum _ n+(ns[n]?).getD 0=_
  rw[z2n ns n]
  by_cases hn:n<ns.length
  ·rw[List.take_add_one,List.getElem?_eq_getElem hn,List.sum_append]
   simp
  ·rw[List.getElem?_eq_none (by omega),List.take_of_length_le (by omega),List.take_of_length_le (by omega)]
   simp
theorem ints_get:∀{ns:List Int} {us:List Value},Vals (ns.map V.int) us->∀(i:Nat) (v:Value),us[i]? =some v->∃n t,ns[i]? =some n/\v= .int n t
 |[],_,r,i,v,e=>by
  cases r
  simp at e
 |n::ns,_,r,i,v,e=>by
  cases r with
  |cons r1 r2 =>
   cases i with
   |zero =>
    simp at e
    subst e
    obtain⟨t,z⟩:=r1
    exact⟨n,t,rfl,z⟩
   |succ i=>exact ints_get r2 i v e
theorem z0b{X:Cx}{K':PySem.W.Frag}(hK:X.K=K')(hc:X.calm=true):z0w X (.builtin "sum") (λxs H Q=>∃(l:Addr) (ns:List Int),xs=[.ref l]/\SqL K' H l (ns.map V.int)/\Q (.int ns.sum) H):=by
 subst hK
 intro pins s σ H xs us Q I r h
 obtain⟨l,ns,rfl,hl,q⟩:=h
 obtain⟨u,rfl,ru⟩:=z2c r
 cases ru
 obtain⟨its,rv,p,hz⟩:=I.list hl
 have pl:s.heap.IsList l its.toArray:=p.isList
 have hlt:l<s.heap.objs.size:=by obtain⟨_,e,_⟩:=pl;exact Heap.lt_size e
 have hlen:ns.length=its.length:=by rw[←rv.length,List.length_map]
 refine TK.wpAny_up (Nat.le_refl s.toks) ?_
 refine call_sum_walkG (wpAny_pyIter_list pl ?_)
 refine⟨s.heap.objs.size,[s.heap.objs.size,l],[s.heap.objs.size],its.toArray.size,_,_,λi=>(ns[i]?).getD 0,rfl,Walks.list (A:=X.A.in1) (I.ok.hd hc) _ l (Nat.ne_of_lt hlt) its.toArray,
  ⟨⟨_,Heap.get?_push_size _ rfl,rfl,rfl⟩,pl.push _⟩,λb hb=>?_,λi v hP=>?_,λh' tk t' hk hup=>?_⟩
 ·show b<(s.heap.push _).objs.size
  rw[Heap.size_push]
  rcases List.mem_cons.mp hb with rfl|z
  ·exact Nat.lt_succ_self _
  ·rw[List.mem_singleton.mp z]
   exact Nat.lt_succ_of_lt hlt
 ·obtain⟨n,t,e,rfl⟩:=ints_get rv i v (by simpa using hP)
  exact⟨t,by show _=Value.int ((ns[i]?).getD 0) t;rw[e];rfl⟩
 ·rw[z2n,List.size_toArray,←hlen,List.take_length]
  refine⟨.int ns.sum,H,I.kept (t':=tk) (λb x e=>hk b x (λhm=>?_) (Heap.get?_push_of_some _ e)),⟨_,rfl⟩,q⟩
  rw[List.mem_singleton.mp hm]at e
  exact Nat.lt_irrefl _ (Heap.lt_size e)
end L2
namespace GP
open PySem L2 GwM
def sm(f:Nat->Int):Nat->Int
 | 0=>0
 |n+1=>sm f n+f n
theorem q2a{f g:Nat->Int}:∀{n:Nat},(∀i,i<n->f i=g i)->sm f n=sm g n
 | 0,_=>rfl
 |n+1,h=>by
  show sm f n+f n=sm g n+g n
  rw[q2a λi hi=>h i (by omega),h n (by omega)]
theorem sm_zero:∀n:Nat,sm (λ_=>0) n=0
 | 0=>rfl
 |n+1=>by show sm (λ_=>0) n+0=0;rw[sm_zero n];rfl
theorem sm_add(f g:Nat->Int):∀n:Nat,sm (λi=>f i+g i) n=sm f n+sm g n
 | 0=>rfl
 |n+1=>by show sm (λi=>f i+g i) n+(f n+g n)=sm f n+f n+(sm g n+g n);rw[sm_add f g n];omega
theorem z4u(f:Nat->Nat->Int)(m:Nat):∀n:Nat,sm (λi=>sm (f i) m) n=sm (λj=>sm (λi=>f i j) n) m
 | 0=>(sm_zero m).symm
 |n+1=>by
  show sm (λi=>sm (f i) m) n+sm (f n) m=sm (λj=>sm (λi=>f i j) n+f n j) m
  rw[sm_add,z4u f m n]
theorem sm_cut(f:Nat->Int){r:Nat}:∀{n:Nat},r<=n->sm f r=sm (λi=>if i<r then f i else 0) n
 | 0,h=>by
  have:r=0:=by omega
  rw[this];rfl
 |n+1,h=>by
  show _=sm (λi=>if i<r then f i else 0) n+(if n<r then f n else 0)
  by_cases e:r=n+1
  ·rw[e,if_pos (by omega)]
   show sm f n+f n=_
   rw[q2a (f:=f) λi hi=>(if_pos (show i<n+1 by omega)).symm]
  ·rw[sm_cut f (show r<=n by omega),if_neg (by omega),Int.add_zero]
theorem sm_tri(g:Nat->Nat->Nat->Int)(n w:Nat):
  sm (λk=>sm (λr=>sm (λi=>g k i r) r) n) w=sm (λi=>sm (λj=>if i<j then sm (λk=>g k i j) w else 0) n) n:=by
 rw[q2a λk _=>q2a λr hr=>sm_cut (λi=>g k i r) (Nat.le_of_lt hr)]
 rw[z4u (λk r=>sm (λi=>if i<r then g k i r else 0) n) n w]
 rw[q2a λr _=>z4u (λk i=>if i<r then g k i r else 0) n w]
 rw[z4u (λr i=>sm (λk=>if i<r then g k i r else 0) w) n n]
 refine q2a λi _=>q2a λr _=>?_
 by_cases h:i<r
 ·rw[if_pos h];exact q2a λk _=>if_pos h
 ·rw[if_neg h];exact(q2a λk _=>if_neg h).trans (sm_zero w)
theorem sum_snoc(l:List Int)(x:Int):(l++[x]).sum=l.sum+x:=by rw[List.sum_append];simp
theorem q9f(f:Nat->Int):∀n:Nat,((List.range n).map f).sum=sm f n
 | 0=>rfl
 |n+1=>by rw[List.range_succ,List.map_append,List.map_singleton,sum_snoc,q9f f n];rfl
def knS(sg:Str):Str:=sg++Str.ofString "-"
theorem q5s{sg:Str}{c:Nat}:c∈(knS sg).cps.toList↔c=45\/c∈sg.cps.toList:=by
 have e:(knS sg).cps.toList=sg.cps.toList++[45]:=q8m _ _
 rw[e,List.mem_append,List.mem_singleton]
 exact Or.comm
def tcF(sg:Str)(rows:List (List Fra))(fo fm:Fra)(a b:Nat):Int :=
 if a=45/\b=45 then 0 else if a=45\/b=45 then fm.1*(q0s fo.2 fm.2 rows / fm.2)else pcF sg rows (q0s fo.2 fm.2 rows) a b
def colC(tc:Nat->Nat->Int)(L:List Nat)(n:Nat):Int:=sm (λr=>sm (λi=>tc (L.getD i 0) (L.getD r 0)) r) n
def z3h(tc:Nat->Nat->Int)(rs:List Str):Int:=sm (λk=>colC tc (q6k rs k) rs.length) (wid rs)
def BadR(kn:Str)(rs:List Str)(i j:Nat):Prop :=
 (∃r c,rs[i]? =some r/\r.cps[j]? =some c/\c∉kn.cps.toList/\∀k d,k<j->r.cps[k]? =some d->d∈kn.cps.toList)/\∀m r,m<i->rs[m]? =some r->Of kn r
def spKnownR(K:PySem.W.Frag)(C:Addr):Sp:=λvs H Q E=>∃(kn:Str) (v:V) (rs:List Str),vs=[.str kn,v]/\Rw K H v rs/\SmR rs ∧
 ((∀r∈rs,Of kn r)->∀H',Same H H'->Q .non H')/\(∀i j,BadR kn rs i j->∀dx H',Same H H'->H' dx=some (xdO dx (fldS i j))->E (.ref C) (some dx) H')
def z2i(K:PySem.W.Frag)(C X:Addr):Sp:=λvs H Q E=>∃(x:Addr) (sg:Str) (rows:List (List Fra)) (fo fm:Fra) (v:V) (rs:List Str),vs=[.ref x,v]/\PrAt K C H x sg rows fo fm/\Rw K H v rs/\SmR rs ∧
 ((∀r∈rs,Of (knS sg) r)->∀H',Same H H'->Q .non H')/\(∀i j,BadR (knS sg) rs i j->∀dx H',Same H H'->H' dx=some (xdO dx (fldS i j))->E (.ref X) (some dx) H')
def z2g(K:PySem.W.Frag)(C:Addr):Sp:=λvs H Q _=>∃(x:Addr) (sg:Str) (rows:List (List Fra)) (fo fm:Fra) (a b:Nat),vs=[.ref x,.str ⟨#[a]⟩,.str ⟨#[b]⟩]/\PrAt K C H x sg rows fo fm/\a∈(knS sg).cps.toList/\b∈(knS sg).cps.toList ∧
 ∀H',Same H H'->Q (.int (tcF sg rows fo fm a b)) H'
def spColCost(K:PySem.W.Frag)(C:Addr):Sp:=λvs H Q _=>∃(x:Addr) (sg:Str) (rows:List (List Fra)) (fo fm:Fra) (c:Str),vs=[.ref x,.str c]/\PrAt K C H x sg rows fo fm/\Of (knS sg) c/\c.cps.size<=100 ∧
 ∀H',Same H H'->Q (.int (colC (tcF sg rows fo fm) c.cps.toList c.cps.size)) H'
def z4e(K:PySem.W.Frag)(C CB:Addr):Sp:=λvs H Q _=>∃(x b:Addr) (sg:Str) (rows:List (List Fra)) (fo fm:Fra) (rs:List Str),vs=[.ref x,.ref b]/\PrAt K C H x sg rows fo fm/\Blk K CB H b rs/\SmR rs/\lenB rs=true/\(∀r∈rs,Of (knS sg) r) ∧
 ∀H',Same H H'->Q (.int (z3h (tcF sg rows fo fm) rs)) H'
end GP
namespace GP
open PySem L2 GwM
theorem gapD(c:Nat):decide (V.str ⟨#[c]⟩=V.str (Str.ofString "-"))=decide (c=45):=by
 rw[Bool.eq_iff_iff,decide_eq_true_iff,decide_eq_true_iff]
 refine⟨λh=>?_,λh=>by rw[h];rfl⟩
 have h':(⟨#[c]⟩:Str)=⟨#[45]⟩:=by injection h
 injection h' with h'
 simpa using h'
theorem tcF_gg{sg:Str}{rows:List (List Fra)}{fo fm:Fra}{a b:Nat}(h:a=45)(h2:b=45):tcF sg rows fo fm a b=0:=if_pos ⟨h,h2⟩
theorem tcF_g{sg:Str}{rows:List (List Fra)}{fo fm:Fra}{a b:Nat}(h:¬(a=45/\b=45))(h2:a=45\/b=45):tcF sg rows fo fm a b=fm.1*(q0s fo.2 fm.2 rows / fm.2):=(if_neg h).trans (if_pos h2)
theorem tcF_p{sg:Str}{rows:List (List Fra)}{fo fm:Fra}{a b:Nat}(h:a≠45)(h2:b≠45):tcF sg rows fo fm a b=pcF sg rows (q0s fo.2 fm.2 rows) a b:=(if_neg λz=>h z.1).trans (if_neg λz=>z.elim h h2)
end GP
namespace GP
open PySem L2 GwM
theorem turn_ne{a tv:Int}{i j:Nat}(ht:tv=1\/tv=3\/tv=5\/tv=7\/tv=9\/tv=11)(hij:i<j)(hj:j<6):((a+(i:Int)*tv) % 92).toNat≠((a+(j:Int)*tv) % 92).toNat:=by
 rcases ht with rfl|rfl|rfl|rfl|rfl|rfl<;>omega
theorem nodup_pick{L:List Nat}{p:Nat->Nat}(hL:L.Nodup)(n:Nat)(hp:∀i,i<n->p i<L.length)(hne:∀i j,i<j->j<n->p i≠p j):((List.range n).map λi=>L.getD (p i) 0).Nodup:=by
 rw[List.Nodup,List.pairwise_map]
 refine List.Pairwise.imp_of_mem ?_ (List.pairwise_lt_range (n:=n))
 intro i j hi hj hij z
 have h1:=hp i (List.mem_range.mp hi)
 have h2:=hp j (List.mem_range.mp hj)
 rw[q0u (List.getElem?_eq_getElem h1),q0u (List.getElem?_eq_getElem h2)]at z
 exact hne i j hij (List.mem_range.mp hj) ((List.getElem_inj hL).mp z)
def incB:List Nat->Bool
 |a::b::r=>decide (a<b)&&incB (b::r)
 |_=>true
theorem incB_lt:∀{a:Nat} {l:List Nat},incB (a::l)=true->(∀c∈l,a<c)/\incB l=true
 |a,[],_=>⟨λc hc=>(nomatch hc),rfl⟩
 |a,b::r,h=>by
  have h':(decide (a<b)&&incB (b::r))=true:=h
  rw[Bool.and_eq_true]at h'
  have h1:=of_decide_eq_true h'.1
  refine⟨λc hc=>?_,h'.2⟩
  rcases List.mem_cons.mp hc with rfl|hc
  ·exact h1
  ·exact Nat.lt_trans h1 ((incB_lt h'.2).1 c hc)
theorem z4k:∀{l:List Nat},incB l=true->l.Nodup
 |[],_=>List.nodup_nil
 |a::l,h=>List.nodup_cons.mpr ⟨λz=>Nat.lt_irrefl _ ((incB_lt h).1 a z),z4k (incB_lt h).2⟩
theorem bg_cell40(e:Int):Sm (e % ((10:Int) ^ (40:Int).toNat)-5*(10:Int) ^ (39:Int).toNat):=by
 have e1:(10:Int) ^ (40:Int).toNat=10000000000000000000000000000000000000000:=by decide
 have e2:(10:Int) ^ (39:Int).toNat=1000000000000000000000000000000000000000:=by decide
 rw[e1,e2]
 have h1:=Int.emod_nonneg e (show(10000000000000000000000000000000000000000:Int)≠0 by decide)
 have h2:=Int.emod_lt_of_pos e (show(0:Int)<10000000000000000000000000000000000000000 by decide)
 exact bg_small (by omega) (by omega)
def spSignsC(K:PySem.W.Frag):Sp:=λvs H Q _=>∃(s t:Addr) (ns:List Int) (k:Int) (n:Nat),vs=[.ref s,.ref t,.int n]/\Ctr K H s t ns k/\k<=100000/\n<=6 ∧
 ∀(x:Str) H',x.cps.size=n->(∀c∈x.cps.toList,q2g c=true)->x.cps.toList.Nodup->Same (L2.upd H t (.lst [.int (k+1)])) H'->Q (.str x) H'
def spPricesC(K:PySem.W.Frag)(C:Addr):Sp:=λvs H Q _=>∃(s t:Addr) (ns:List Int) (k:Int) (sg:Str) (b:Bool),vs=[.ref s,.ref t,.str sg,.bl b]/\Ctr K H s t ns k/\k<=80000/\Signs sg/\sg.cps.size<=12 ∧
 ∀x H' k' rows fo fm,PrAt K C (Wo t H') x sg rows fo fm->H x=none->Same (Wo t H) (Wo t H')->H' t=some (.lst [.int k'])->k<=k'->k'<=k+200->Q (.ref x) H'
end GP
namespace GP
open PySem L2 GwM
def thAt(rs:List Str)(i k:Nat):Nat:=(rs.getD i ⟨#[]⟩).cps.toList.getD k 0
theorem colL_at{rs:List Str}{i k:Nat}(h:i<rs.length):(q6k rs k).getD i 0=thAt rs i k:=by
 unfold q6k thAt
 rw[q0u (by rw[List.getElem?_map,List.getElem?_eq_getElem h];rfl),q0u (List.getElem?_eq_getElem h)]
theorem blkC_law(tc:Nat->Nat->Int)(rs:List Str):sm (λi=>sm (λj=>if i<j then sm (λk=>tc (thAt rs i k) (thAt rs j k)) (wid rs)else 0) rs.length) rs.length=z3h tc rs:=by
 rw[←sm_tri λk i r=>tc (thAt rs i k) (thAt rs r k)]
 unfold z3h colC
 refine q2a λk _=>q2a λr hr=>q2a λi hi=>?_
 rw[colL_at hr,colL_at (Nat.lt_trans hi hr)]
theorem sm_none{i:Nat}(f:Nat->Int):∀n,n<=i+1->sm (λj=>if i<j then f j else 0) n=0
 | 0,_=>rfl
 |n+1,h=>by
  show sm (λj=>if i<j then f j else 0) n+(if i<n then f n else 0)=0
  rw[sm_none f n (by omega),if_neg (by omega)]
  rfl
def spCostC(K:PySem.W.Frag)(C:Addr):Sp:=λvs H Q _=>∃(x a:Addr) (sg:Str) (rows:List (List Fra)) (fo fm:Fra) (rs:List Str),vs=[.ref x,.ref a]/\PrAt K C H x sg rows fo fm/\SqL K H a (rs.map V.str)/\SmR rs/\lenB rs=true/\(∀r∈rs,Of (knS sg) r) ∧
 ∀H',Same H H'->Q (.int (z3h (tcF sg rows fo fm) rs)) H'
def spWholeI:Sp:=λvs H Q _=>∃n:Int,vs=[.int n]/\Q (.bl true) H
end GP
namespace GP
open PySem L2 GwM
theorem q2x{rs:List Str}(h:q2y rs=true):lenB rs=true:=by
 unfold q2y at h
 rw[Bool.and_eq_true]at h
 exact h.1
theorem BadR.uniq{kn:Str}{rs:List Str}{i j i' j':Nat}(h:BadR kn rs i j)(h':BadR kn rs i' j'):i=i'/\j=j':=by
 obtain⟨⟨r,c,h1,h2,h3,h4⟩,h5⟩:=h
 obtain⟨⟨r',c',h1',h2',h3',h4'⟩,h5'⟩:=h'
 have m:c∈r.cps.toList:=by rw[←Array.getElem?_toList]at h2;exact List.mem_of_getElem? h2
 have m':c'∈r'.cps.toList:=by rw[←Array.getElem?_toList]at h2';exact List.mem_of_getElem? h2'
 have ei:i=i':=Nat.le_antisymm (Nat.not_lt.mp λz=>h3' (h5 i' r' z h1' c' m')) (Nat.not_lt.mp λz=>h3 (h5' i r z h1 c m))
 subst ei
 rw[h1]at h1'
 cases h1'
 exact⟨rfl,Nat.le_antisymm (Nat.not_lt.mp λz=>h3' (h4 j' c' z h2')) (Nat.not_lt.mp λz=>h3 (h4' j c z h2))⟩
theorem BadR.no{kn:Str}{rs:List Str}{i j:Nat}(h:BadR kn rs i j):¬ ∀r∈rs,Of kn r:=λz=>by
 obtain⟨⟨r,c,h1,h2,h3,_⟩,_⟩:=h
 exact h3 (z r (List.mem_of_getElem? h1) c (by rw[←Array.getElem?_toList]at h2;exact List.mem_of_getElem? h2))
end GP
namespace GP
open PySem L2 GwM
def okX(x:Str)(c:Nat):Prop:=okT c/\c∈(knS x).cps.toList
theorem okX.gap{x:Str}:okX x 45:=⟨.inl rfl,q5s.mpr (.inl rfl)⟩
theorem okX.of{x:Str}{c:Nat}(h:q2g c=true/\c∈x.cps.toList):okX x c:=⟨.inr h.1,q5s.mpr (.inr h.2)⟩
theorem grown_of{kn:Str}{rs:List Str}{cs:List Nat}{n:Nat}(hl:rs.length=n)(hc:cs.length=n)(h:∀r∈rs,Of kn r)(hk:∀c∈cs,c∈kn.cps.toList):∀r∈grown rs cs n,Of kn r:=λy hy d hd=>by
 unfold grown at hy
 obtain⟨r,hr,rfl⟩:=List.mem_map.mp hy
 have hr':=List.mem_range.mp hr
 have h1:r<rs.length:=by rw[hl];exact hr'
 have h2:r<cs.length:=by rw[hc];exact hr'
 rw[q0u (List.getElem?_eq_getElem h1),q0u (List.getElem?_eq_getElem h2),q8m]at hd
 rcases List.mem_append.mp hd with hd|hd
 ·exact h _ (List.getElem_mem h1) d hd
 ·rw[List.mem_singleton.mp hd]
  exact hk _ (List.getElem_mem h2)
def spColC(K:PySem.W.Frag):Sp:=λvs H Q _=>∃(s t:Addr) (ns:List Int) (k:Int) (x:Str) (n:Nat),vs=[.ref s,.ref t,.str x,.int n]/\Ctr K H s t ns k/\k<=90000/\0<n/\n<=10/\0<x.cps.size/\x.cps.size<=10/\(∀c∈x.cps.toList,q2g c=true) ∧
 ∀(l:Addr) (cs:List Nat) (k':Int) (H':Hp),cs.length=n->(∀c∈cs,okX x c)->(∃c∈cs,c≠45)->H' l=some (.lst (cs.map sg))->H l=none->Same (Wo t H) (Wo t H')->H' t=some (.lst [.int k'])->k<=k'->k'<=k+20->Q (.ref l) H'
def spRowsC(K:PySem.W.Frag):Sp:=λvs H Q _=>∃(s t:Addr) (ns:List Int) (k:Int) (x:Str) (n m:Nat),vs=[.ref s,.ref t,.str x,.int n,.int m]/\Ctr K H s t ns k/\k<=80000/\0<n/\n<=10/\m<=50/\0<x.cps.size/\x.cps.size<=10/\(∀c∈x.cps.toList,q2g c=true) ∧
 ∀(l:Addr) (rs:List Str) (k':Int) (H':Hp),RsOk rs n m->(∀r∈rs,Of (knS x) r)->H' l=some (.lst (rs.map V.str))->H l=none->Same (Wo t H) (Wo t H')->H' t=some (.lst [.int k'])->k<=k'->k'<=k+1000->Q (.ref l) H'
end GP
namespace GP
open PySem L2 GwM
theorem cut_set(l:List Nat)(c:Nat):∀(k:Nat),k<l.length->l.take k++[c]++l.drop (k+1)=l.set k c:=by
 induction l with
 |nil=>intro k h;cases h
 |cons a l ih =>
  intro k h
  cases k with
  |zero=>rfl
  |succ k =>
   have:=ih k (by simpa using h)
   show a::(l.take k++[c]++l.drop (k+1))=a::l.set k c
   rw[this]
theorem RsOk.put{rs:List Str}{n w r k:Nat}{row o:Str}{c:Nat}(h:RsOk rs n w)(hr:rs[r]? =some row)(hk:k<w)(ho:o.cps.toList=row.cps.toList.set k c)(hc:q2g c=true):RsOk (rs.set r o) n w:=by
 have hm:=List.mem_of_getElem? hr
 have hrl:r<rs.length:=(List.getElem?_eq_some_iff.mp hr).1
 have hkl:k<row.cps.toList.length:=by rw[Array.length_toList,h.wid row hm];exact hk
 refine⟨by rw[List.length_set];exact h.len,λy hy=>?_,λy hy d hd=>?_,λj hj=>?_⟩
 ·rcases List.mem_or_eq_of_mem_set hy with hy|rfl
  ·exact h.wid y hy
  ·rw[←Array.length_toList,ho,List.length_set,Array.length_toList];exact h.wid row hm
 ·rcases List.mem_or_eq_of_mem_set hy with hy|rfl
  ·exact h.ok y hy d hd
  ·rw[ho]at hd
   rcases List.mem_or_eq_of_mem_set hd with hd|rfl
   ·exact h.ok row hm d hd
   ·exact .inr hc
 ·obtain⟨y,hy,d,hd,hne⟩:=h.col j hj
  obtain⟨q,hq,e⟩:=List.getElem_of_mem hy
  by_cases z:q=r
  ·subst z
   rw[List.getElem?_eq_getElem hq,e]at hr
   cases hr
   refine⟨o,List.mem_set hrl o,?_⟩
   by_cases z2:j=k
   ·subst z2
    exact⟨c,by rw[ho,List.getElem?_set_self hkl],sign_ne hc⟩
   ·exact⟨d,by rw[ho,List.getElem?_set_ne (Ne.symm z2)];exact hd,hne⟩
  ·refine⟨y,?_,d,hd,hne⟩
   refine List.mem_of_getElem? (i:=q) ?_
   rw[List.getElem?_set_ne (Ne.symm z),List.getElem?_eq_getElem hq,e]
theorem take_not{l:List Nat}(h:l.Nodup){k j c:Nat}(hj:l[j]? =some c)(hk:k<=j):c∉l.take k:=λz=>by
 obtain⟨i,hi,e⟩:=List.getElem_of_mem z
 rw[List.length_take]at hi
 have hi2:i<l.length:=by omega
 obtain⟨hj2,e2⟩:=List.getElem?_eq_some_iff.mp hj
 rw[List.getElem_take]at e
 have:=(List.getElem_inj (h₀:=hi2) (h₁:=hj2) h).mp (e.trans e2.symm)
 omega
section
variable{K:PySem.W.Frag}{CP CB:Addr}{H H' H'':Hp}{t a x o:Addr}{k k2:Int}{sg:Str}{rows:List (List Fra)}{fo fm:Fra}{rs0 rs rs2:List Str}
end
end GP
namespace GP
open PySem L2 GwM
theorem Blk.wo{K:PySem.W.Frag}{C:Addr}{H:Hp}{t b:Addr}{ys:List V}{rs:List Str}(ht:H t=some (.lst ys))(h:Blk K C H b rs):Blk K C (Wo t H) b rs:=by
 obtain⟨dx,q,h1,h2⟩:=h
 exact⟨dx,q,Wo.in (q9r h1 ht (by intro z;cases z)) h1,SqT.wo ht h2⟩
theorem tup2_eq(a b:Int):q6m [V.int a,V.int b] [V.int a,V.int b]=true:=by simp[q6m,List.range,List.range.loop,eqV]
end GP
namespace GP
open PySem L2 GwM
def z0e(e b b1 r:Int):Int:=if e<=0 then min (e+b1) (min b r)else min b r
def rowR(e b:Nat->Int)(n:Nat):Nat->Int
 | 0=>0
 |k+1=>z0e (e (n-1-k)) (b (n-1-k)) (b (n-k)) (rowR e b n k)
def resK(E:Nat->Nat->Int)(m n:Nat):Nat->Nat->Int
 | 0,_=>0
 |k+1,j=>rowR (E (m-1-k)) (resK E m n k) n (n-j)
def q4s(E:Nat->Nat->Int)(m n i j:Nat):Int:=resK E m n (m-i) j
theorem q6z{E:Nat->Nat->Int}{m n j:Nat}:q4s E m n m j=0:=by unfold q4s;rw[Nat.sub_self];rfl
theorem z5a{E:Nat->Nat->Int}{m n i j:Nat}(hi:i<m):q4s E m n i j=rowR (E i) (q4s E m n (i+1)) n (n-j):=by
 unfold q4s
 obtain⟨k,hk⟩:∃k,m-i=k+1:=⟨m-i-1,by omega⟩
 rw[hk]
 show rowR (E (m-1-k)) (resK E m n k) n (n-j)=_
 rw[show m-1-k=i by omega,show m-(i+1)=k by omega]
theorem q9o{E:Nat->Nat->Int}{m n i:Nat}(hi:i<=m):q4s E m n i n=0:=by
 by_cases h:i<m
 ·rw[z5a h,Nat.sub_self];rfl
 ·rw[show i=m by omega,q6z]
theorem q9n{E:Nat->Nat->Int}{m n i j:Nat}(hi:i<m)(hj:j<n):q4s E m n i j=z0e (E i j) (q4s E m n (i+1) j) (q4s E m n (i+1) (j+1)) (q4s E m n i (j+1)):=by
 rw[z5a (j:=j) hi,z5a (j:=j+1) hi]
 obtain⟨k,hk⟩:∃k,n-j=k+1:=⟨n-j-1,by omega⟩
 rw[hk,show n-(j+1)=k by omega]
 show z0e (E i (n-1-k)) (q4s E m n (i+1) (n-1-k)) (q4s E m n (i+1) (n-k)) _=_
 rw[show n-1-k=j by omega,show n-k=j+1 by omega]
theorem z1p{e b b1 r:Int}:z0e e b b1 r<=b/\z0e e b b1 r<=r/\(e<=0->z0e e b b1 r<=e+b1)/\(z0e e b b1 r=e+b1\/z0e e b b1 r=b\/z0e e b b1 r=r):=by
 unfold z0e
 split<;>(refine⟨by omega,by omega,by omega,by omega⟩)
theorem resF_a{E:Nat->Nat->Int}{m n i j:Nat}(hi:i<m)(hj:j<=n):q4s E m n i j<=q4s E m n (i+1) j:=by
 by_cases h:j<n
 ·rw[q9n hi h];exact z1p.1
 ·rw[show j=n by omega,q9o (by omega),q9o (by omega)];exact Int.le_refl _
theorem resF_b{E:Nat->Nat->Int}{m n i j:Nat}(hi:i<=m)(hj:j<n):q4s E m n i j<=q4s E m n i (j+1):=by
 by_cases h:i<m
 ·rw[q9n h hj];exact z1p.2.1
 ·rw[show i=m by omega,q6z,q6z];exact Int.le_refl _
theorem resF_p{E:Nat->Nat->Int}{m n i j:Nat}(hi:i<m)(hj:j<n):q4s E m n i j<=E i j+q4s E m n (i+1) (j+1):=by
 have h1:=resF_a (E:=E) hi (Nat.le_of_lt hj)
 have h2:=resF_b (E:=E) (m:=m) (i:=i+1) hi hj
 by_cases h:E i j<=0
 ·have h3:=q9n (E:=E) hi hj
  have h4:=(z1p (e:=E i j) (b:=q4s E m n (i+1) j) (b1:=q4s E m n (i+1) (j+1)) (r:=q4s E m n i (j+1))).2.2.1 h
  omega
 ·omega
theorem resF_or{E:Nat->Nat->Int}{m n i j:Nat}(hi:i<m)(hj:j<n):q4s E m n i j=E i j+q4s E m n (i+1) (j+1)\/q4s E m n i j=q4s E m n (i+1) j\/q4s E m n i j=q4s E m n i (j+1):=by
 rw[q9n hi hj];exact z1p.2.2.2
def mvF(E:Nat->Nat->Int)(m n i j:Nat):Nat :=
 if i=m then 98 else if j<n/\E i j+q4s E m n (i+1) (j+1)=q4s E m n i j then 112 else if q4s E m n (i+1) j=q4s E m n i j then 97 else 98
theorem mvF_mv{E:Nat->Nat->Int}{m n i j:Nat}:mvOk (mvF E m n i j):=by
 unfold mvF mvOk
 split
 ·exact .inr (.inr rfl)
 ·split
  ·exact .inl rfl
  ·split
   ·exact .inr (.inl rfl)
   ·exact .inr (.inr rfl)
inductive MvAt(m n i j:Nat):Nat->Nat->Nat->Prop
 |p (hi:i<m) (hj:j<n):MvAt m n i j 112 (i+1) (j+1)
 |a (hi:i<m):MvAt m n i j 97 (i+1) j
 |b (hj:j<n):MvAt m n i j 98 i (j+1)
theorem mvF_at{E:Nat->Nat->Int}{m n i j:Nat}(hi:i<=m)(hj:j<=n)(h:¬(i=m/\j=n)):
  ∃i' j',MvAt m n i j (mvF E m n i j) i' j'/\q4s E m n i j=(if mvF E m n i j=112 then E i j else 0)+q4s E m n i' j':=by
 unfold mvF
 by_cases h1:i=m
 ·rw[if_pos h1]
  refine⟨i,j+1,.b (by omega),?_⟩
  rw[h1,q6z,q6z];rfl
 ·rw[if_neg h1]
  by_cases h2:j<n/\E i j+q4s E m n (i+1) (j+1)=q4s E m n i j
  ·rw[if_pos h2]
   refine⟨i+1,j+1,.p (by omega) h2.1,?_⟩
   rw[if_pos rfl];exact h2.2.symm
  ·rw[if_neg h2]
   by_cases h3:q4s E m n (i+1) j=q4s E m n i j
   ·rw[if_pos h3]
    refine⟨i+1,j,.a (by omega),?_⟩
    rw[h3];simp
   ·rw[if_neg h3]
    have hjn:j<n:=by
     by_cases z:j<n
     ·exact z
     ·exfalso
      apply h3
      rw[show j=n by omega,q9o (by omega),q9o (by omega)]
    refine⟨i,j+1,.b hjn,?_⟩
    rcases resF_or (E:=E) (show i<m by omega) hjn with z|z|z
    ·exact absurd ⟨hjn,z.symm⟩ h2
    ·exact absurd z.symm h3
    ·rw[←z];simp
inductive Path(m n:Nat):List Nat->Nat->Nat->Prop
 |nil:Path m n [] 0 0
 |snoc {cs:List Nat} {i j c i' j':Nat}:Path m n cs i j->MvAt m n i j c i' j'->Path m n (cs++[c]) i' j'
theorem MvAt.in{m n i j c i' j':Nat}(h:MvAt m n i j c i' j')(hi:i<=m)(hj:j<=n):i'<=m/\j'<=n/\i+j<i'+j':=by
 cases h<;>omega
theorem Path.in{m n:Nat}{cs:List Nat}{i j:Nat}(h:Path m n cs i j):i<=m/\j<=n/\cs.length<=i+j:=by
 induction h with
 |nil=>exact⟨Nat.zero_le _,Nat.zero_le _,Nat.le_refl _⟩
 |snoc _ s ih =>
  obtain⟨a,b,c⟩:=s.in ih.1 ih.2.1
  refine⟨a,b,?_⟩
  rw[List.length_append]
  have:=ih.2.2
  show _+1<=_
  omega
theorem MvAt.stp{m n i j c i' j':Nat}(h:MvAt m n i j c i' j'):GP.stp ((i:Int),(j:Int)) c=((i':Int),(j':Int)):=by
 cases h<;>rfl
theorem MvAt.ok{m n i j c i' j':Nat}(h:MvAt m n i j c i' j'):mvOk c:=by
 cases h
 ·exact .inl rfl
 ·exact .inr (.inl rfl)
 ·exact .inr (.inr rfl)
inductive FstW(E:Nat->Nat->Int)(m n:Nat):List Nat->Nat->Nat->Prop
 |nil:FstW E m n [] 0 0
 |snoc {cs:List Nat} {i j i' j':Nat}:FstW E m n cs i j->MvAt m n i j (mvF E m n i j) i' j'->q4s E m n i j=(if mvF E m n i j=112 then E i j else 0)+q4s E m n i' j'->FstW E m n (cs++[mvF E m n i j]) i' j'
theorem FstW.path{E:Nat->Nat->Int}{m n:Nat}{cs:List Nat}{i j:Nat}(h:FstW E m n cs i j):Path m n cs i j:=by
 induction h with
 |nil=>exact .nil
 |snoc _ s _ ih=>exact .snoc ih s
def pI(cs:List Nat)(k:Nat):Nat:=((cs.take k).filter (· != 98)).length
def pJ(cs:List Nat)(k:Nat):Nat:=((cs.take k).filter (· != 97)).length
def colM(A B:List Str)(g1 g2:Str)(i j c:Nat):Str:=(if c=98 then g1 else A.getD i ⟨#[]⟩)++(if c=97 then g2 else B.getD j ⟨#[]⟩)
def osF(A B:List Str)(g1 g2:Str)(cs:List Nat)(n:Nat):List Str:=(List.range n).map λk=>colM A B g1 g2 (pI cs k) (pJ cs k) (cs.getD k 0)
theorem pI_app{cs ds:List Nat}{k:Nat}(h:k<=cs.length):pI (cs++ds) k=pI cs k/\pJ (cs++ds) k=pJ cs k:=by
 unfold pI pJ
 rw[List.take_append_of_le_length h]
 exact⟨rfl,rfl⟩
theorem pI_succ{cs:List Nat}{k c:Nat}(h:cs[k]? =some c):pI cs (k+1)=pI cs k+(if c=98 then 0 else 1)/\pJ cs (k+1)=pJ cs k+(if c=97 then 0 else 1):=by
 unfold pI pJ
 rw[List.take_add_one,h]
 show(List.filter _ (cs.take k++[c])).length=_/\(List.filter _ (cs.take k++[c])).length=_
 rw[List.filter_append,List.filter_append,List.length_append,List.length_append]
 constructor
 ·by_cases e:c=98<;>simp[e]
 ·by_cases e:c=97<;>simp[e]
theorem Path.at_{m n:Nat}{cs:List Nat}{i j:Nat}(h:Path m n cs i j):pI cs cs.length=i/\pJ cs cs.length=j/\∀k,k<cs.length->∃c,cs[k]? =some c/\MvAt m n (pI cs k) (pJ cs k) c (pI cs (k+1)) (pJ cs (k+1)):=by
 induction h with
 |nil=>exact⟨rfl,rfl,λk hk=>absurd hk (Nat.not_lt_zero _)⟩
 | @snoc cs i j c i' j' _ s ih =>
  obtain⟨h1,h2,h3⟩:=ih
  have e1:(cs++[c])[cs.length]? =some c:=by rw[List.getElem?_append_right (Nat.le_refl _),Nat.sub_self];rfl
  have e2:=pI_succ e1
  have e3:=pI_app (cs:=cs) (ds:=[c]) (Nat.le_refl cs.length)
  rw[e3.1,e3.2,h1,h2]at e2
  have e4:i'=i+(if c=98 then 0 else 1)/\j'=j+(if c=97 then 0 else 1):=by cases s<;>exact⟨rfl,rfl⟩
  have el:(cs++[c]).length=cs.length+1:=List.length_append
  rw[el]
  refine⟨e2.1.trans e4.1.symm,e2.2.trans e4.2.symm,λk hk=>?_⟩
  by_cases z:k=cs.length
  ·subst z
   refine⟨c,e1,?_⟩
   rw[e2.1,e2.2,←e4.1,←e4.2,e3.1,e3.2,h1,h2]
   exact s
  ·have hk':k<cs.length:=by omega
   obtain⟨d,hd,sd⟩:=h3 k hk'
   refine⟨d,by rw[List.getElem?_append_left hk'];exact hd,?_⟩
   have a1:=pI_app (cs:=cs) (ds:=[c]) (k:=k) (by omega)
   have a2:=pI_app (cs:=cs) (ds:=[c]) (k:=k+1) (by omega)
   rw[a1.1,a1.2,a2.1,a2.2]
   exact sd
theorem osF_snoc{A B:List Str}{g1 g2:Str}{cs:List Nat}{c:Nat}:osF A B g1 g2 (cs++[c]) (cs++[c]).length=osF A B g1 g2 cs cs.length++[colM A B g1 g2 (pI cs cs.length) (pJ cs cs.length) c]:=by
 unfold osF
 rw[show(cs++[c]).length=cs.length+1 from List.length_append,List.range_succ,List.map_append]
 congr 1
 ·refine List.map_congr_left λk hk=>?_
  have hk':=List.mem_range.mp hk
  have a1:=pI_app (cs:=cs) (ds:=[c]) (k:=k) (by omega)
  rw[a1.1,a1.2,List.getD_eq_getElem?_getD,List.getElem?_append_left hk',←List.getD_eq_getElem?_getD]
 ·have e3:=pI_app (cs:=cs) (ds:=[c]) (Nat.le_refl cs.length)
  rw[List.map_singleton,e3.1,e3.2,List.getD_eq_getElem?_getD,List.getElem?_append_right (Nat.le_refl _),Nat.sub_self]
  rfl
end GP
namespace GP
open PySem L2 GwM
def q5t(f:Nat->Int)(L:List Nat):Int:=(L.map f).sum
theorem q6n(f:Nat->Int):q5t f []=0:=rfl
theorem q2q(f:Nat->Int)(a:Nat)(L:List Nat):q5t f (a::L)=f a+q5t f L:=by unfold q5t;rw[List.map_cons,List.sum_cons]
theorem sumL_app(f:Nat->Int)(L M:List Nat):q5t f (L++M)=q5t f L+q5t f M:=by unfold q5t;rw[List.map_append,List.sum_append]
theorem sumL_snoc(f:Nat->Int)(L:List Nat)(a:Nat):q5t f (L++[a])=q5t f L+f a:=by rw[sumL_app,q2q,q6n];omega
theorem q8b(f g:Nat->Int):∀L:List Nat,q5t (λa=>f a+g a) L=q5t f L+q5t g L
 |[]=>rfl
 |a::L=>by rw[q2q,q2q,q2q,q8b f g L];omega
theorem q2m{f g:Nat->Int}:∀{L:List Nat},(∀a∈L,f a=g a)->q5t f L=q5t g L
 |[],_=>rfl
 |a::L,h=>by rw[q2q,q2q,h a (List.mem_cons_self ..),q2m λb hb=>h b (List.mem_cons_of_mem _ hb)]
theorem q8l(c:Int):∀L:List Nat,q5t (λ_=>c) L=(L.length:Int)*c
 |[]=>by rw[q6n];simp
 |a::L=>by rw[q2q,q8l c L,List.length_cons,Int.natCast_add,Int.add_mul];simp;omega
theorem sumL_swap(f:Nat->Nat->Int)(M:List Nat):∀L:List Nat,q5t (λa=>q5t (f a) M) L=q5t (λb=>q5t (λa=>f a b) L) M
 |[]=>by rw[q6n];exact((q2m λb _=>q6n _).trans ((q8l 0 M).trans (Int.mul_zero _))).symm
 |a::L=>by
  rw[q2q,sumL_swap f M L,←q8b]
  exact q2m λb _=>(q2q (λa=>f a b) a L).symm
def sgs(L:List Nat):List Nat:=L.filter (· != 45)
theorem q9b(f:Nat->Int):∀L:List Nat,q5t (λa=>if a=45 then 0 else f a) L=q5t f (sgs L)
 |[]=>rfl
 |a::L=>by
  rw[q2q,q9b f L]
  unfold sgs
  by_cases e:a=45
  ·rw[if_pos e,List.filter_cons_of_neg (by simp[e])];omega
  ·rw[if_neg e,List.filter_cons_of_pos (by simp[e]),q2q]
theorem sm_sumL(f:Nat->Int)(L:List Nat):sm (λi=>f (L.getD i 0)) L.length=q5t f L:=by
 rw[←q9f]
 unfold q5t
 congr 1
 refine List.ext_getElem (by simp) λi h1 h2=>?_
 have hi:i<L.length:=by simpa using h2
 rw[List.getElem_map,List.getElem_map,List.getElem_range,q0u (List.getElem?_eq_getElem hi)]
def cc(tc:Nat->Nat->Int)(L:List Nat):Int:=colC tc L L.length
theorem cc_snoc(tc:Nat->Nat->Int)(L:List Nat)(x:Nat):cc tc (L++[x])=cc tc L+q5t (λl=>tc l x) L:=by
 unfold cc
 rw[show(L++[x]).length=L.length+1 from List.length_append]
 show colC tc (L++[x]) L.length+sm (λi=>tc ((L++[x]).getD i 0) ((L++[x]).getD L.length 0)) L.length=_
 have e:∀i,i<L.length->(L++[x]).getD i 0=L.getD i 0:=λi hi=>by rw[List.getD_eq_getElem?_getD,List.getElem?_append_left hi,←List.getD_eq_getElem?_getD]
 have e2:(L++[x]).getD L.length 0=x:=by rw[List.getD_eq_getElem?_getD,List.getElem?_append_right (Nat.le_refl _),Nat.sub_self];rfl
 rw[e2,q2a λi hi=>congrArg (tc · x) (e i hi),sm_sumL λl=>tc l x]
 unfold colC
 rw[q2a λr hr=>q2a λi hi=>by rw[e i (by omega),e r hr]]
def bet(tc:Nat->Nat->Int)(L M:List Nat):Int:=q5t (λb=>q5t (λa=>tc a b) L) M
theorem cc_app(tc:Nat->Nat->Int)(L:List Nat):∀M:List Nat,cc tc (L++M)=cc tc L+cc tc M+bet tc L M:=by
 intro M
 obtain⟨n,hn⟩:∃n,M.length=n:=⟨_,rfl⟩
 induction n generalizing M with
 |zero =>
  have e:M=[]:=List.eq_nil_of_length_eq_zero hn
  rw[e,List.append_nil]
  show _=cc tc L+0+0
  omega
 |succ n ih =>
  obtain⟨M',x,rfl⟩:∃M' x,M=M'++[x]:=by
   rcases List.eq_nil_or_concat M with h|⟨M',x,h⟩
   ·rw[h]at hn;cases hn
   ·exact⟨M',x,by rw[h,List.concat_eq_append]⟩
  have hM:M'.length=n:=by rw[List.length_append]at hn;exact Nat.succ.inj hn
  rw[←List.append_assoc,cc_snoc,ih M' hM,cc_snoc,sumL_app]
  unfold bet
  rw[sumL_snoc]
  omega
def exC(pc:Nat->Nat->Int)(mo:Int)(S O:List Nat):Int:=q5t (λo=>q5t (λs=>pc s o-2*mo) S) O
theorem bet_eq{tc pc:Nat->Nat->Int}{mo:Int}(h0:∀a b,a=45->b=45->tc a b=0)(h1:∀a b,¬(a=45/\b=45)->(a=45\/b=45)->tc a b=mo)(h2:∀a b,a≠45->b≠45->tc a b=pc a b)(L M:List Nat):
  bet tc L M=exC pc mo (sgs L) (sgs M)+((sgs L).length:Int)*(M.length:Int)*mo+((sgs M).length:Int)*(L.length:Int)*mo:=by
 have e:∀a b,tc a b=(if a=45 then 0 else if b=45 then 0 else pc a b-2*mo)+((if a=45 then 0 else mo)+(if b=45 then 0 else mo)):=λa b=>by
  by_cases ha:a=45
  ·by_cases hb:b=45
   ·rw[h0 a b ha hb,if_pos ha,if_pos ha,if_pos hb];rfl
   ·rw[h1 a b (λz=>hb z.2) (.inl ha),if_pos ha,if_pos ha,if_neg hb];omega
  ·by_cases hb:b=45
   ·rw[h1 a b (λz=>ha z.1) (.inr hb),if_neg ha,if_neg ha,if_pos hb,if_pos hb];omega
   ·rw[h2 a b ha hb,if_neg ha,if_neg ha,if_neg hb,if_neg hb];omega
 unfold bet
 rw[q2m (g:=λb=>(if b=45 then 0 else q5t (λs=>pc s b-2*mo) (sgs L))+(((sgs L).length:Int)*mo+(if b=45 then 0 else(L.length:Int)*mo))) λb _=>?_]
 ·rw[q8b,q9b (λb=>q5t (λs=>pc s b-2*mo) (sgs L)),q8b,q8l,q9b (λ_=>(L.length:Int)*mo),q8l]
  unfold exC
  rw[Int.mul_comm ((sgs L).length:Int) (M.length:Int),Int.mul_assoc,Int.mul_assoc,Int.add_assoc]
 ·rw[q2m λa _=>e a b,q8b,q8b,q9b (λ_=>mo),q8l,q8l,q9b (λa=>if b=45 then 0 else pc a b-2*mo)]
  by_cases hb:b=45
  ·rw[if_pos hb,if_pos hb,q2m (g:=λ_=>0) λa _=>if_pos hb,q8l,if_pos hb]
   omega
  ·rw[if_neg hb,if_neg hb,q2m (g:=λa=>pc a b-2*mo) λa _=>if_neg hb,if_neg hb]
theorem z1q(n:Nat):sgs (List.replicate n 45)=[]:=by
 unfold sgs
 rw[List.filter_eq_nil_iff]
 intro a ha
 rw[List.eq_of_mem_replicate ha]
 simp
theorem cc_gaps{tc:Nat->Nat->Int}(h0:∀a b,a=45->b=45->tc a b=0):∀n:Nat,cc tc (List.replicate n 45)=0
 | 0=>rfl
 |n+1=>by
  rw[List.replicate_succ',cc_snoc,cc_gaps h0 n,q2m (g:=λ_=>0) λa ha=>h0 _ _ (List.eq_of_mem_replicate ha) rfl,q8l]
  omega
end GP
namespace GP
open PySem L2 GwM
def q2d(n:Nat):Str:=⟨(List.replicate n 45).toArray⟩
theorem q9y(n:Nat):(q2d n).cps.toList=List.replicate n 45:=rfl
theorem q3k(n:Nat):(q2d n).cps.size=n:=by rw[←Array.length_toList,q9y,List.length_replicate]
theorem rep_gapS(n:Nat):repS (Str.ofString "-") (n:Nat)=q2d n:=by
 have e:(repS (Str.ofString "-") (n:Nat)).cps.toList=List.replicate n 45:=by
  rw[z2m]
  show(List.replicate n [45]).flatten=_
  induction n with
  |zero=>rfl
  |succ n ih=>rw[List.replicate_succ,List.flatten_cons,ih,List.replicate_succ];rfl
 rw[←q9y n]at e
 have e2:=Array.toList_inj.mp e
 rcases h3:repS (Str.ofString "-") (n:Nat)with⟨cs⟩
 rw[h3]at e2
 exact congrArg Str.mk e2
structure q8a(kn:List Nat)(A:List Str)(n:Nat):Prop where
 size:∀c∈A,c.cps.size=n
 ok:∀c∈A,∀x∈c.cps.toList,okT x
 of:∀c∈A,∀x∈c.cps.toList,x∈kn
 full:∀c∈A,q7g c=false
theorem thing_ok{x:Str}{c:Nat}(h:q4r x=true)(hc:c∈x.cps.toList):okT c:=by
 by_cases e:c=45
 ·exact .inl e
 ·exact .inr (z0d.mp h c hc e)
theorem z0u{sg:Str}{rs:List Str}(hb:q2y rs=true)(ho:∀r∈rs,Of (knS sg) r):q8a (knS sg).cps.toList (cols rs (wid rs)) rs.length:=by
 unfold q2y at hb
 rw[Bool.and_eq_true,Bool.and_eq_true]at hb
 obtain⟨hl,ht,hc⟩:=hb
 obtain⟨hne,hw⟩:=q2j.mp hl
 have key:∀c∈cols rs (wid rs),∀x∈c.cps.toList,∃r∈rs,x∈r.cps.toList:=λc hc x hx=>by
  unfold cols at hc
  obtain⟨j,hj,rfl⟩:=List.mem_map.mp hc
  obtain⟨r,hr,rfl⟩:=List.mem_map.mp (show x∈rs.map λr=>r.cps.toList.getD j 0 from hx)
  have hj':j<r.cps.toList.length:=by rw[Array.length_toList,hw r hr];exact List.mem_range.mp hj
  refine⟨r,hr,?_⟩
  rw[q0u (List.getElem?_eq_getElem hj')]
  exact List.getElem_mem hj'
 refine⟨λc hc=>?_,λc hc x hx=>?_,λc hc x hx=>?_,λc hc'=>?_⟩
 ·unfold cols at hc
  obtain⟨j,hj,rfl⟩:=List.mem_map.mp hc
  exact List.length_map ..
 ·obtain⟨r,hr,hx⟩:=key c hc x hx
  exact thing_ok (List.all_eq_true.mp ht r hr) hx
 ·obtain⟨r,hr,hx⟩:=key c hc x hx
  exact ho r hr x hx
 ·unfold colsB at hc
  have:=List.all_eq_true.mp hc c hc'
  rw[Bool.not_eq_true']at this
  exact this
theorem sm_map{α:Type}(F:α->Int)(l:List α)(d:α):sm (λi=>F (l.getD i d)) l.length=(l.map F).sum:=by
 rw[←q9f]
 congr 1
 refine List.ext_getElem (by simp) λi h1 h2=>?_
 have hi:i<l.length:=by simpa using h2
 rw[List.getElem_map,List.getElem_map,List.getElem_range,q0u (List.getElem?_eq_getElem hi)]
theorem blkC_cols(tc:Nat->Nat->Int)(rs:List Str):z3h tc rs=sm (λi=>cc tc ((cols rs (wid rs)).getD i ⟨#[]⟩).cps.toList) (wid rs):=by
 unfold z3h
 refine q2a λk hk=>?_
 rw[q0u (cols_at hk)]
 show _=colC tc (q6k rs k) (q6k rs k).length
 rw[show(q6k rs k).length=rs.length from List.length_map ..]
theorem turn_back{os:List Str}{N k:Nat}{o:Str}(hs:∀o∈os,o.cps.size=N)(hk:os[k]? =some o):q6k (cols os N) k=o.cps.toList:=by
 have ho:=hs o (List.mem_of_getElem? hk)
 unfold q6k cols
 rw[List.map_map]
 refine List.ext_getElem (by rw[List.length_map,List.length_range,Array.length_toList,ho]) λr h1 h2=>?_
 rw[List.getElem_map,List.getElem_range]
 show(os.map λx=>x.cps.toList.getD r 0).getD k 0=_
 rw[q0u (x:=o.cps.toList.getD r 0) (by rw[List.getElem?_map,hk];rfl),q0u (List.getElem?_eq_getElem h2)]
theorem wid_cols{os:List Str}{N:Nat}(h:0<N):wid (cols os N)=os.length:=by
 obtain⟨M,rfl⟩:∃M,N=M+1:=⟨N-1,by omega⟩
 unfold wid cols
 rw[List.range_succ_eq_map,List.map_cons]
 exact List.length_map ..
theorem blkC_turn(tc:Nat->Nat->Int){os:List Str}{N:Nat}(h:0<N)(hs:∀o∈os,o.cps.size=N):z3h tc (cols os N)=(os.map λo=>cc tc o.cps.toList).sum:=by
 unfold z3h
 rw[wid_cols h,q1v,←sm_map (λo=>cc tc o.cps.toList) os ⟨#[]⟩]
 refine q2a λk hk=>?_
 rw[turn_back hs (List.getElem?_eq_getElem hk),q0u (List.getElem?_eq_getElem hk)]
 unfold cc
 rw[Array.length_toList,hs _ (List.getElem_mem hk)]
theorem row_of{os:List Str}{N:Nat}{r:Str}{x:Nat}(hs:∀o∈os,o.cps.size=N)(hr:r∈cols os N)(hx:x∈r.cps.toList):∃o∈os,x∈o.cps.toList:=by
 unfold cols at hr
 obtain⟨j,hj,rfl⟩:=List.mem_map.mp hr
 obtain⟨o,ho,rfl⟩:=List.mem_map.mp (show x∈os.map λr=>r.cps.toList.getD j 0 from hx)
 have hj':j<o.cps.toList.length:=by rw[Array.length_toList,hs o ho];exact List.mem_range.mp hj
 refine⟨o,ho,?_⟩
 rw[q0u (List.getElem?_eq_getElem hj')]
 exact List.getElem_mem hj'
theorem z4b{kn:List Nat}{os:List Str}{N:Nat}(hN:0<N)(h:q8a kn os N):q2y (cols os N)=true/\∀r∈cols os N,∀x∈r.cps.toList,x∈kn:=by
 have hw:=wid_cols (os:=os) hN
 have hl:lenB (cols os N)=true:=by
  refine q2j.mpr ⟨λz=>?_,λr hr=>?_⟩
  ·have:=q1v (rs:=os) (n:=N)
   rw[z]at this
   have:0=N:=this
   omega
  ·rw[hw]
   unfold cols at hr
   obtain⟨j,hj,rfl⟩:=List.mem_map.mp hr
   exact List.length_map ..
 refine⟨?_,λr hr x hx=>?_⟩
 ·unfold q2y
  rw[hl,Bool.true_and,Bool.and_eq_true]
  refine⟨List.all_eq_true.mpr λr hr=>z0d.mpr λc hc hn=>?_,?_⟩
  ·obtain⟨o,ho,hx⟩:=row_of h.size hr hc
   exact(h.ok o ho c hx).resolve_left hn
  ·unfold colsB
   rw[hw,List.all_eq_true]
   intro c hc
   obtain⟨k,hk,rfl⟩:=List.mem_map.mp (show c∈(List.range os.length).map (colS (cols os N)) from hc)
   have hk':=List.mem_range.mp hk
   have e:=turn_back h.size (List.getElem?_eq_getElem hk')
   have:=h.full _ (List.getElem_mem hk')
   unfold q7g at this ⊢
   rw[show(colS (cols os N) k).cps.toList=q6k (cols os N) k from rfl,e,this]
   rfl
 ·obtain⟨o,ho,hx⟩:=row_of h.size hr hx
  exact h.of o ho x hx
theorem gaps_app{a b:Str}:q7g (a++b)=(q7g a&&q7g b):=by
 unfold q7g
 rw[q8m,List.all_append]
section
variable{kn:List Nat}{A B:List Str}{n1 n2:Nat}
theorem q1p{i:Nat}(h:i<A.length):A.getD i ⟨#[]⟩∈A:=by
 rw[q0u (List.getElem?_eq_getElem h)]
 exact List.getElem_mem h
theorem colM_ok(hA:q8a kn A n1)(hB:q8a kn B n2)(hk:45∈kn){i j c i' j':Nat}(h:MvAt A.length B.length i j c i' j'):
  (colM A B (q2d n1) (q2d n2) i j c).cps.size=n1+n2/\(∀x∈(colM A B (q2d n1) (q2d n2) i j c).cps.toList,okT x/\x∈kn)/\q7g (colM A B (q2d n1) (q2d n2) i j c)=false:=by
 have ga:∀n x,x∈(q2d n).cps.toList->okT x/\x∈kn:=λn x hx=>by
  rw[List.eq_of_mem_replicate hx]
  exact⟨.inl rfl,hk⟩
 have mk:∀{a b:Str},a.cps.size=n1->b.cps.size=n2->(∀x∈a.cps.toList,okT x/\x∈kn)->(∀x∈b.cps.toList,okT x/\x∈kn)->(q7g a=false\/q7g b=false) →
   (a++b).cps.size=n1+n2/\(∀x∈(a++b).cps.toList,okT x/\x∈kn)/\q7g (a++b)=false:=λ{a b} h1 h2 h3 h4 h5=>by
  refine⟨by rw[q8c,h1,h2],λx hx=>?_,?_⟩
  ·rw[q8m]at hx
   exact(List.mem_append.mp hx).elim (h3 x) (h4 x)
  ·rw[gaps_app]
   rcases h5 with h5|h5<;>rw[h5]
   ·rfl
   ·rw[Bool.and_false]
 unfold colM
 cases h with
 |p hi hj =>
  rw[if_neg (by decide),if_neg (by decide)]
  exact mk (hA.size _ (q1p hi)) (hB.size _ (q1p hj)) (λx hx=>⟨hA.ok _ (q1p hi) x hx,hA.of _ (q1p hi) x hx⟩) (λx hx=>⟨hB.ok _ (q1p hj) x hx,hB.of _ (q1p hj) x hx⟩) (.inl (hA.full _ (q1p hi)))
 |a hi =>
  rw[if_neg (by decide),if_pos rfl]
  exact mk (hA.size _ (q1p hi)) (q3k _) (λx hx=>⟨hA.ok _ (q1p hi) x hx,hA.of _ (q1p hi) x hx⟩) (ga n2) (.inl (hA.full _ (q1p hi)))
 |b hj =>
  rw[if_pos rfl,if_neg (by decide)]
  exact mk (q3k _) (hB.size _ (q1p hj)) (ga n1) (λx hx=>⟨hB.ok _ (q1p hj) x hx,hB.of _ (q1p hj) x hx⟩) (.inr (hB.full _ (q1p hj)))
theorem Path.cols(hA:q8a kn A n1)(hB:q8a kn B n2)(hk:45∈kn){cs:List Nat}{i j:Nat}(h:Path A.length B.length cs i j):q8a kn (osF A B (q2d n1) (q2d n2) cs cs.length) (n1+n2):=by
 have key:∀o∈osF A B (q2d n1) (q2d n2) cs cs.length,o.cps.size=n1+n2/\(∀x∈o.cps.toList,okT x/\x∈kn)/\q7g o=false:=λo ho=>by
  unfold osF at ho
  obtain⟨k,hk',rfl⟩:=List.mem_map.mp ho
  obtain⟨c,hc,s⟩:=h.at_.2.2 k (List.mem_range.mp hk')
  rw[q0u hc]
  exact colM_ok hA hB hk s
 exact⟨λo ho=>(key o ho).1,λo ho x hx=>((key o ho).2.1 x hx).1,λo ho x hx=>((key o ho).2.1 x hx).2,λo ho=>(key o ho).2.2⟩
theorem FstW.cost(hA:∀c∈A,c.cps.size=n1)(hB:∀c∈B,c.cps.size=n2){tc pc:Nat->Nat->Int}{mo:Int}(h0:∀a b,a=45->b=45->tc a b=0)(h1:∀a b,¬(a=45/\b=45)->(a=45\/b=45)->tc a b=mo)(h2:∀a b,a≠45->b≠45->tc a b=pc a b)
  {E:Nat->Nat->Int} (hE:∀i j,i<A.length->j<B.length->E i j=exC pc mo (sgs (A.getD i ⟨#[]⟩).cps.toList) (sgs (B.getD j ⟨#[]⟩).cps.toList)) {cs:List Nat} {i j:Nat} (h:FstW E A.length B.length cs i j) :
  ((osF A B (q2d n1) (q2d n2) cs cs.length).map λo=>cc tc o.cps.toList).sum =
   sm (λi=>cc tc (A.getD i ⟨#[]⟩).cps.toList+((sgs (A.getD i ⟨#[]⟩).cps.toList).length:Int)*(n2:Int)*mo) i+sm (λj=>cc tc (B.getD j ⟨#[]⟩).cps.toList+((sgs (B.getD j ⟨#[]⟩).cps.toList).length:Int)*(n1:Int)*mo) j+(q4s E A.length B.length 0 0-q4s E A.length B.length i j):=by
 induction h with
 |nil=>show(0:Int)=0+0+_;omega
 | @snoc cs i j i' j' hp s e ih =>
  rw[osF_snoc,List.map_append,List.map_singleton,sum_snoc,ih,hp.path.at_.1,hp.path.at_.2.1]
  generalize mvF E A.length B.length i j=c at s e
  have hl:∀{i},i<A.length->(A.getD i ⟨#[]⟩).cps.toList.length=n1:=λ{i} hi=>by rw[Array.length_toList];exact hA _ (q1p hi)
  have hr:∀{j},j<B.length->(B.getD j ⟨#[]⟩).cps.toList.length=n2:=λ{j} hj=>by rw[Array.length_toList];exact hB _ (q1p hj)
  unfold colM
  cases s with
  |p hi hj =>
   rw[if_pos rfl]at e
   rw[if_neg (by decide),if_neg (by decide),q8m,cc_app,bet_eq h0 h1 h2,hl hi,hr hj,←hE i j hi hj,e]
   show _=sm _ i+(_+_)+(sm _ j+(_+_))+_
   omega
  |a hi =>
   rw[if_neg (by decide)]at e
   rw[if_neg (by decide),if_pos rfl,q8m,cc_app,bet_eq h0 h1 h2,hl hi,q9y,z1q,cc_gaps h0,List.length_replicate,e]
   show _=sm _ i+(_+_)+sm _ j+_
   rw[show exC pc mo (sgs (A.getD i ⟨#[]⟩).cps.toList) []=0 from rfl,List.length_nil,show((0:Nat):Int)*(n1:Int)*mo=0 by simp]
   omega
  |b hj =>
   rw[if_neg (by decide)]at e
   rw[if_pos rfl,if_neg (by decide),q8m,cc_app,bet_eq h0 h1 h2,hr hj,q9y,z1q,cc_gaps h0,List.length_replicate,e]
   show _=sm _ i+(sm _ j+(_+_))+_
   rw[show exC pc mo [] (sgs (B.getD j ⟨#[]⟩).cps.toList)=0 from(q2m λ_ _=>q6n _).trans ((q8l 0 _).trans (Int.mul_zero _)),List.length_nil,show((0:Nat):Int)*(n2:Int)*mo=0 by simp]
   omega
end
end GP
namespace L2
open PySem PySem.Spec PyProof.Rows
def ItR(K:PySem.W.Frag)(a:Addr)(n:Nat):It :=
 ⟨λi H=>∃xs x,SqL K H a xs/\i<n/\xs[n-1-i]? =some x,λi H x H'=>H'=H/\∀xs,SqL K H a xs->xs[n-1-i]? =some x,λi _=>n<=i⟩
theorem turn_rev{P:Program}{w:World}{K:PySem.W.Frag}{tg:Expr}(a it:Addr)(n:Nat):Turn P w K tg (ItR K a n) [it] it (λi h=>i<=n/\h.IsRevIter it a ((n:Int)-1-(i:Int))) where
 mem:=by simp
 obj:=λi h st b hb=>by
  have e:b=it:=by simpa using hb
  subst e
  obtain⟨o,e,c,d⟩:=st.2
  exact⟨o,e,λv z=>by rw[d]at z;cases z⟩
 keep:=λi h h' st k=>⟨st.1,st.2.at λo e=>k it (by simp) o e⟩
 item:=by
  intro X hP hw hK hc i pins s σ H E I hf st hg
  subst hP hw hK
  obtain⟨xs,x,hq,hi,hx⟩:=hg
  obtain⟨its,rv,p,hz⟩:=I.list hq
  obtain⟨u,hu,ru⟩:=rv.get hx
  obtain⟨f0,f1,f2,f3,f4,f5⟩:=hf it (by simp)
  have st':s.heap.IsRevIter it a ((n-1-i:Nat):Int):=by
   rw[show((n-1-i:Nat):Int)=(n:Int)-1-(i:Int) by omega]
   exact st.2
  refine wpAny_pyNext_rev_item st' p.isList (x:=u) (by simpa using hu) λh' st' sb=>?_
  have I1:Inv X pins σ H { s with heap:=h' }:=I.turned (t':=s.toks) (λb o hb e=>(sb.2 b hb).trans e) f0 f1 f3 f4 f5
  obtain⟨o,e,c,d⟩:=id st'
  refine⟨u,rfl,go_of (s:={ s with heap:=h' }) e c d (by decide) ⟨x,H,I1,ru,⟨rfl,λys hy=>by rw[I.list_inj hy hq];exact hx⟩,⟨by omega,?_⟩,λb hb=>(hf b hb).1⟩⟩
  rw[show(n:Int)-1-((i+1:Nat):Int)=((n-1-i:Nat):Int)-1 by omega]
  exact st'
 done:=by
  intro X hP hw hK hc i pins s σ H E I hf st hg
  subst hP hw hK
  obtain⟨f0,f1,f2,f3,f4,f5⟩:=hf it (by simp)
  have hg':n<=i:=hg
  have st':s.heap.IsRevIter it a (-1):=by
   rw[show(-1:Int)=(n:Int)-1-(i:Int) by have:=st.1;omega]
   exact st.2
  exact wpAny_pyNext_rev_end (I.ok.hd hc) st' λh' eb=>⟨rfl,I.turned (t':=s.toks) (λb o hb e=>eb b o hb e) f0 f1 f3 f4 f5⟩
 self:=λ_ _ _ _ _ st h=>wpAny_pyIter_revIter st.2 h
def iRev(K:PySem.W.Frag)(ta:TA):TI:=λσ H R=>ta σ H λvs H1=>∃a xs,vs=[.ref a]/\SqL K H1 a xs/\R (ItR K a xs.length) H1
theorem z6h:bootBuiltins "reversed" =some (.type "reversed"):=by decide +kernel
theorem pi_rev {X:Cx} {tg a:Expr} {ta:TA} {p pos:Pos} (hg:Gl X "reversed") (hm:X.mg "reversed" =none) (ha:PA X [a] ta) (hs:starEach [a] X.env=[(false,eval a X.env)]:=by rfl):PI X tg (.Call (.Name "reversed" p) [a] [] pos) (iRev X.K ta):=by
 intro pins s σ H R I h
 refine Call_ (q9w I hg hm z6h (PyProof.Rows.callWith_type1 (thn (ha pos pins s σ H _ I h) λus s1 ⟨vs,H1,I1,r1,q1⟩=>?_) hs rfl))
 obtain⟨l,xs,rfl,hq,q⟩:=q1
 obtain⟨u,rfl,ru⟩:=z2c r1
 cases ru
 obtain⟨its,rv,pl,hz⟩:=I1.list hq
 have hl:s1.heap.IsList l its.toArray:=pl.isList
 have hlen:=rv.length
 refine call_reversed_list hl ?_
 have e0:({ s1 with heap:=s1.heap.push (revObj l ((its.toArray.size:Int)-1)) }:Shared).heap.IsRevIter s1.heap.objs.size l ((xs.length:Int)-1-((0:Nat):Int)) :=
  ⟨_,Heap.get?_push_size _ rfl,rfl,by rw[show(xs.length:Int)-1-((0:Nat):Int)=(its.toArray.size:Int)-1 by rw[List.size_toArray];omega];rfl⟩
 refine wpAny_pyIter_revIter e0 ?_
 refine⟨s1.heap.objs.size,[s1.heap.objs.size],_,_,H1,rfl,I1.kept (t':=s1.toks) λb o e=>Heap.get?_push_of_some _ e,turn_rev l _ xs.length,⟨Nat.zero_le _,e0⟩,λb hb=>?_,q⟩
 have e:b=s1.heap.objs.size:=by simpa using hb
 subst e
 exact I1.fpOk (Nat.le_refl _) (I1.hok.fresh (Nat.le_refl _))
end L2
namespace L2
open PySem PySem.Spec PyProof.Rows
theorem op_notIn_d{X:Cx}(hu:X.A.units+1<cLine):OpR X (compareOp .NotIn) (λx y H Q=>∃a o,y= .ref a/\DGet H a x o/\Q (.bl (!o.isSome)) H):=by
 intro pins s σ H x y u v Q I rx ry h
 obtain⟨a,o,rfl,g,q⟩:=h
 cases (show v=Value.ref a from ry)
 exact d_notIn hu I g rx λs3 I3=>⟨.bl (!o.isSome),H,I3,rfl,q⟩
theorem for_rev{K:PySem.W.Frag}{a:Addr}{xs:List V}{g:TG}{tb:TS}{D:Ends}{σ:St}{H:Hp}(Pv:Nat->St->Hp->Prop)(h0:Pv 0 σ H)(hl:∀i σ H,i<xs.length->Pv i σ H->SqL K H a xs)
  (hs:∀i x σ H,i<xs.length->xs[xs.length-1-i]? =some x->Pv i σ H->g x σ H λσ2 H2=>tb { D with nx:=Pv (i+1),ct:=Pv (i+1),bk:=D.nx } σ2 H2) (hd:∀ σ H,Pv xs.length σ H->D.nx σ H) :
  ∃W:Nat->Nat->St->Hp->Prop,(∃m,W 0 m σ H)/\∀i m σ H,W i m σ H →
   ((ItR K a xs.length).stop i H/\D.nx σ H)\/((ItR K a xs.length).go i H/\∃N:St->Hp->Prop,(∀ σ' H',N σ' H'->∃m',m'<m/\W (i+1) m' σ' H')/\∀x H',(ItR K a xs.length).yld i H x H'->g x σ H' λσ2 H2=>tb { D with nx:=N,ct:=N,bk:=D.nx } σ2 H2):=by
 refine⟨λi m σ H=>m=xs.length-i/\i<=xs.length/\Pv i σ H,⟨xs.length,by simp,Nat.zero_le _,h0⟩,?_⟩
 rintro i m σ H ⟨rfl,hi,p⟩
 by_cases hlt:i<xs.length
 ·have hx:xs[xs.length-1-i]? =some xs[xs.length-1-i]:=List.getElem?_eq_getElem (by omega)
  refine .inr ⟨⟨xs,_,hl i σ H hlt p,hlt,hx⟩,Pv (i+1),λσ' H' p'=>⟨xs.length-(i+1),by omega,rfl,hlt,p'⟩,λx H' y=>?_⟩
  obtain⟨e,y⟩:=y
  subst e
  exact hs i x σ _ hlt (y xs (hl i σ _ hlt p)) p
 ·have e:i=xs.length:=by omega
  subst e
  exact .inl ⟨Nat.le_refl _,hd σ H p⟩
end L2
namespace GP
open PySem L2 GwM
theorem q1f{α β:Type}{d:α}(l:List α)(F:α->β):(List.range l.length).map (λj=>F (l.getD j d))=l.map F:=by
 refine List.ext_getElem (by simp) λi h1 h2=>?_
 have hi:i<l.length:=by simpa using h2
 rw[List.getElem_map,List.getElem_map,List.getElem_range,q0u (List.getElem?_eq_getElem hi)]
theorem refs_of{P:Nat->Addr->Prop}{f:Nat->V}:∀{m:Nat},(∀j,j<m->∃r,f j= .ref r/\P j r)->∃rs:List Addr,rs.length=m/\(List.range m).map f=rs.map V.ref/\∀i r,rs[i]? =some r->P i r
 | 0,_=>⟨[],rfl,rfl,λi r h=>by simp at h⟩
 |m+1,h=>by
  obtain⟨rs,h1,h2,h3⟩:=refs_of (m:=m) λj hj=>h j (by omega)
  obtain⟨r,e,hr⟩:=h m (Nat.lt_succ_self _)
  refine⟨rs++[r],by rw[List.length_append,h1];rfl,by rw[List.range_succ,List.map_append,h2,List.map_append,List.map_singleton,e];rfl,λi q hq=>?_⟩
  by_cases z:i<rs.length
  ·rw[List.getElem?_append_left z]at hq
   exact h3 i q hq
  ·rw[List.getElem?_append_right (by omega)]at hq
   have ei:i=m:=by
    have:=(List.getElem?_eq_some_iff.mp hq).1
    have:i-rs.length<1:=this
    omega
   subst ei
   rw[h1,Nat.sub_self]at hq
   cases hq
   exact hr
theorem rev_range{α:Type}(F:Nat->α)(n:Nat):((List.range (n+1)).map F).reverse=(List.range (n+1)).map λj=>F (n-j):=by
 refine List.ext_getElem (by simp) λi h1 h2=>?_
 rw[List.getElem_reverse,List.getElem_map,List.getElem_map,List.getElem_range,List.getElem_range]
 have e:((List.range (n+1)).map F).length-1-i=n-i:=by simp
 rw[e]
theorem q1k{α:Type}{F:Nat->α}{n j:Nat}(h:j<n):((List.range n).map F)[j]? =some (F j):=by
 rw[List.getElem?_map,List.getElem?_range h];rfl
theorem q5j{α:Type}{F:Nat->α}{n:Nat}:(List.range (n+1)).map F=(List.range n).map F++[F n]:=by
 rw[List.range_succ,List.map_append];rfl
def moF(rows:List (List Fra))(fo fm:Fra):Int:=fm.1*(q0s fo.2 fm.2 rows / fm.2)
def gpC(mo:Int)(c:Str)(n:Nat):Int:=((sgs c.cps.toList).length:Int)*(n:Int)*mo
def IMat(H:Hp)(l:Addr)(m n:Nat)(f:Nat->Nat->Int):Prop :=
 ∃rs:List Addr,rs.length=m/\H l=some (.lst (rs.map V.ref))/\∀i r,rs[i]? =some r->H r=some (.lst ((List.range n).map λj=>V.int (f i j)))
theorem IMat.same{H H':Hp}{l:Addr}{m n:Nat}{f:Nat->Nat->Int}(h:IMat H l m n f)(e:Same H H'):IMat H' l m n f:=by
 obtain⟨rs,h1,h2,h3⟩:=h
 exact⟨rs,h1,e _ _ h2,λi r hr=>e _ _ (h3 i r hr)⟩
def exF(pc:Nat->Nat->Int)(mo:Int)(A B:List Str)(i j:Nat):Int:=exC pc mo (sgs (A.getD i ⟨#[]⟩).cps.toList) (sgs (B.getD j ⟨#[]⟩).cps.toList)
abbrev y1(l1:Addr):List (Str×V):=q1b "ones" (.ref l1) []
abbrev y2(l1 l2:Addr):=q1b "others" (.ref l2) (y1 l1)
abbrev y3(l1 l2:Addr)(g1:Str):=q1b "one_gaps" (.str g1) (y2 l1 l2)
abbrev y4(l1 l2:Addr)(g1 g2:Str):=q1b "other_gaps" (.str g2) (y3 l1 l2 g1)
abbrev y5(l1 l2:Addr)(g1 g2:Str)(a:Addr):=q1b "by_a" (.ref a) (y4 l1 l2 g1 g2)
abbrev y6(l1 l2:Addr)(g1 g2:Str)(a b:Addr):=q1b "by_b" (.ref b) (y5 l1 l2 g1 g2 a)
abbrev y7(l1 l2:Addr)(g1 g2:Str)(a b e:Addr):=q1b "extras" (.ref e) (y6 l1 l2 g1 g2 a b)
def jF(l1 l2:Addr)(g1 g2:Str)(a b e r:Addr):List (Str×V):=q1b "rests" (.ref r) (y7 l1 l2 g1 g2 a b e)
def JAt(C:Addr)(H:Hp)(jn:Addr)(A B:List Str)(n1 n2:Nat)(pc:Nat->Nat->Int)(mo:Int):Prop :=
 ∃dx l1 l2 a b e r,H jn=some (.ins C dx (jF l1 l2 (q2d n1) (q2d n2) a b e r))/\H l1=some (.lst (A.map V.str))/\H l2=some (.lst (B.map V.str)) ∧
  H a=some (.lst (A.map λc=>V.int (gpC mo c n2)))/\H b=some (.lst (B.map λc=>V.int (gpC mo c n1)))/\IMat H e A.length B.length (exF pc mo A B)/\IMat H r (A.length+1) (B.length+1) (q4s (exF pc mo A B) A.length B.length)
theorem JAt.same{C:Addr}{H H':Hp}{jn:Addr}{A B:List Str}{n1 n2:Nat}{pc:Nat->Nat->Int}{mo:Int}(h:JAt C H jn A B n1 n2 pc mo)(s:Same H H'):JAt C H' jn A B n1 n2 pc mo:=by
 obtain⟨dx,l1,l2,a,b,e,r,h1,h2,h3,h4,h5,h6,h7⟩:=h
 exact⟨dx,l1,l2,a,b,e,r,s _ _ h1,s _ _ h2,s _ _ h3,s _ _ h4,s _ _ h5,h6.same s,h7.same s⟩
theorem lk0{f:Str}{v:V}{fs:List (Str×V)}:(q1b f v fs).lookup f=some v:=by rw[q0f,if_pos rfl]
theorem lkN{f g:Str}{u:V}{r:Option V}{fs:List (Str×V)}(h:fs.lookup f=r)(n:¬f=g):(q1b g u fs).lookup f=r:=by rw[q0f,if_neg n];exact h
section
variable{l1 l2 a b e r:Addr}{g1 g2:Str}
theorem z1w:(jF l1 l2 g1 g2 a b e r).lookup ("rests" :Str)=some (.ref r):=lk0
theorem jf_extras:(jF l1 l2 g1 g2 a b e r).lookup ("extras" :Str)=some (.ref e):=lkN (lk0) (by decide +kernel)
theorem jf_by_b:(jF l1 l2 g1 g2 a b e r).lookup ("by_b" :Str)=some (.ref b):=lkN (lkN (lk0) (by decide +kernel)) (by decide +kernel)
theorem jf_by_a:(jF l1 l2 g1 g2 a b e r).lookup ("by_a" :Str)=some (.ref a):=lkN (lkN (lkN (lk0) (by decide +kernel)) (by decide +kernel)) (by decide +kernel)
theorem q9x:(jF l1 l2 g1 g2 a b e r).lookup ("other_gaps" :Str)=some (.str g2):=lkN (lkN (lkN (lkN (lk0) (by decide +kernel)) (by decide +kernel)) (by decide +kernel)) (by decide +kernel)
theorem z2z:(jF l1 l2 g1 g2 a b e r).lookup ("one_gaps" :Str)=some (.str g1):=lkN (lkN (lkN (lkN (lkN (lk0) (by decide +kernel)) (by decide +kernel)) (by decide +kernel)) (by decide +kernel)) (by decide +kernel)
theorem z2y:(jF l1 l2 g1 g2 a b e r).lookup ("others" :Str)=some (.ref l2):=lkN (lkN (lkN (lkN (lkN (lkN (lk0) (by decide +kernel)) (by decide +kernel)) (by decide +kernel)) (by decide +kernel)) (by decide +kernel)) (by decide +kernel)
theorem jf_ones:(jF l1 l2 g1 g2 a b e r).lookup ("ones" :Str)=some (.ref l1):=lkN (lkN (lkN (lkN (lkN (lkN (lkN (lk0) (by decide +kernel)) (by decide +kernel)) (by decide +kernel)) (by decide +kernel)) (by decide +kernel)) (by decide +kernel)) (by decide +kernel)
end
theorem IMat.congr{H:Hp}{l:Addr}{m n:Nat}{f g:Nat->Nat->Int}(h:IMat H l m n f)(e:∀i j,i<m->j<n->f i j=g i j):IMat H l m n g:=by
 obtain⟨rs,h1,h2,h3⟩:=h
 refine⟨rs,h1,h2,λi r hr=>?_⟩
 have hi:i<m:=by rw[←h1];exact(List.getElem?_eq_some_iff.mp hr).1
 rw[h3 i r hr]
 congr 2
 exact List.map_congr_left λj hj=>by rw[e i j hi (List.mem_range.mp hj)]
theorem PrAt.woI{K:PySem.W.Frag}{C CJ jn dj:Addr}{H:Hp}{x:Addr}{sg:Str}{rows:List (List Fra)}{fo fm:Fra}(hj:H jn=some (.ins CJ dj []))(h:PrAt K C H x sg rows fo fm):PrAt K C (Wo jn H) x sg rows fo fm:=by
 have D:Dat H (Wo jn H):=λb u n e=>Wo.in (λz=>by rw[z,hj]at e;exact n _ _ _ (Option.some.inj e).symm) e
 obtain⟨a,b,c,d,f,g,i,dx,P,o,m,dd,kvs,h1,h2,h3,h4,h5,h6,fs,h7,h8,h9⟩:=h
 refine⟨a,b,c,d,f,g,i,dx,P,o,m,dd,kvs,Wo.in (λz=>?_) h1,h2.dat D,h3.dat D,h4.dat D,D _ _ (λ_ _ _ z=>by cases z) h5,h6,fs,h7,h8,D _ _ (λ_ _ _ z=>by cases z) h9⟩
 rw[z,hj]at h1
 have e:=HO.ins.inj (Option.some.inj h1)
 have e2:=congrArg (λl=>List.lookup ("factors" :Str) l) e.2.2
 rw[q7z]at e2
 cases e2
theorem Blk.woI{K:PySem.W.Frag}{C CJ jn dj:Addr}{H:Hp}{b:Addr}{rs:List Str}(hj:H jn=some (.ins CJ dj []))(h:Blk K C H b rs):Blk K C (Wo jn H) b rs:=by
 have D:Dat H (Wo jn H):=λb u n e=>Wo.in (λz=>by rw[z,hj]at e;exact n _ _ _ (Option.some.inj e).symm) e
 obtain⟨dx,q,h1,h2⟩:=h
 refine⟨dx,q,Wo.in (λz=>?_) h1,Dat.tup D h2⟩
 rw[z,hj]at h1
 have e:=HO.ins.inj (Option.some.inj h1)
 have e2:=congrArg (λl=>List.lookup ("rows" :Str) l) e.2.2
 rw[lk0]at e2
 cases e2
theorem strike_of{sg c:Str}(h:∀x∈c.cps.toList,x∈(knS sg).cps.toList):Of sg (q3b 45 c):=λx hx=>by
 obtain⟨h1,h2⟩:=List.mem_filter.mp (show x∈c.cps.toList.filter (· != 45) from hx)
 exact(q5s.mp (h x h1)).resolve_left (by simpa using h2)
theorem z4c{c:Str}{n:Nat}(h:c.cps.size<=n):(q3b 45 c).cps.size<=n:=Nat.le_trans (List.length_filter_le _ _) (by rw[Array.length_toList];exact h)
theorem z2f{cs:List Str}{i:Nat}(h:i<cs.length):(cs.map (q3b 45)).getD i ⟨#[]⟩=q3b 45 (cs.getD i ⟨#[]⟩):=by
 rw[q0u (List.getElem?_eq_getElem h),q0u (by rw[List.getElem?_map,List.getElem?_eq_getElem h];rfl)]
theorem IMat.woI{C jn dj:Addr}{fs:List (Str×V)}{H:Hp}{l:Addr}{m n:Nat}{f:Nat->Nat->Int}(hj:H jn=some (.ins C dj fs))(h:IMat H l m n f):IMat (Wo jn H) l m n f:=by
 have ni:∀{l:Addr} {xs:List V},H l=some (.lst xs)->l≠jn:=λh2 z=>by rw[z,hj]at h2;cases h2
 obtain⟨rs,h1,h2,h3⟩:=h
 exact⟨rs,h1,Wo.in (ni h2) h2,λi r hr=>Wo.in (ni (h3 i r hr)) (h3 i r hr)⟩
theorem IMat.at_{H:Hp}{l:Addr}{m n:Nat}{f:Nat->Nat->Int}(h:IMat H l m n f):∃L:List V,H l=some (.lst L)/\L.length=m/\∀i,i<m->∃r,L[i]? =some (.ref r)/\H r=some (.lst ((List.range n).map λj=>V.int (f i j))):=by
 obtain⟨rs,h1,h2,h3⟩:=h
 refine⟨_,h2,by rw[List.length_map,h1],λi hi=>?_⟩
 have hi':i<rs.length:=by omega
 exact⟨rs[i],by rw[List.getElem?_map,List.getElem?_eq_getElem hi'];rfl,h3 i _ (List.getElem?_eq_getElem hi')⟩
theorem decI{i j:Int}[Decidable (V.int i=V.int j)]:decide (V.int i=V.int j)=decide (i=j):=by
 by_cases h:i=j
 ·rw[decide_eq_true h,decide_eq_true (by rw[h])]
 ·rw[decide_eq_false h,decide_eq_false λz=>h (V.int.inj z)]
theorem tup2_dec{a b c d:Int}:q6m [V.int a,V.int b] [V.int c,V.int d]=decide (a=c/\b=d):=by
 by_cases h:a=c/\b=d
 ·rw[decide_eq_true h,h.1,h.2]
  exact tup2_eq c d
 ·rw[decide_eq_false h]
  by_cases h1:a=c
  ·have h2:¬b=d:=λz=>h ⟨h1,z⟩
   simp[q6m,List.range,List.range.loop,eqV,h1,h2]
  ·simp[q6m,List.range,List.range.loop,eqV,h1]
def Sm2(rs:List Str):Prop:=rs.length<=40/\∀r∈rs,r.cps.size<=50
theorem Sm2.sm{rs:List Str}(h:Sm2 rs):SmR rs:=⟨Nat.le_trans h.1 (by decide),λy hy=>Nat.le_trans (h.2 y hy) (by decide)⟩
theorem Sm2.wid{rs:List Str}(h:Sm2 rs)(hl:lenB rs=true):wid rs<=50:=by
 obtain⟨hne,hw⟩:=q2j.mp hl
 obtain⟨r0,hr0⟩:=List.exists_mem_of_ne_nil rs hne
 rw[←hw r0 hr0]
 exact h.2 r0 hr0
def spGapC(K:PySem.W.Frag)(C:Addr):Sp:=λvs H Q _=>∃(x:Addr) (sg:Str) (rows:List (List Fra)) (fo fm:Fra) (c:Str) (n:Nat),vs=[.ref x,.str c,.int n]/\PrAt K C H x sg rows fo fm/\c.cps.size<=1000/\n<=1000/\Q (.int (gpC (moF rows fo fm) c n)) H
def spGapCs(K:PySem.W.Frag)(C:Addr):Sp:=λvs H Q _=>∃(x l:Addr) (sg:Str) (rows:List (List Fra)) (fo fm:Fra) (cs:List Str) (n:Nat),vs=[.ref x,.ref l,.int n]/\PrAt K C H x sg rows fo fm/\H l=some (.lst (cs.map V.str))/\cs.length<=1000/\(∀c∈cs,c.cps.size<=1000)/\n<=1000 ∧
 ∀l' H',Same H H'->H l'=none->H' l'=some (.lst (cs.map λc=>V.int (gpC (moF rows fo fm) c n)))->Q (.ref l') H'
def spSgEx(K:PySem.W.Frag)(C:Addr):Sp:=λvs H Q _=>∃(x:Addr) (sg:Str) (rows:List (List Fra)) (fo fm:Fra) (S:Str),vs=[.ref x,.str S]/\PrAt K C H x sg rows fo fm/\Of sg S/\S.cps.size<=1000 ∧
 ∀(d:Addr) H' (kvs:List (Key×V)),Same H H'->H d=none->H' d=some (.dK kvs)->(∀o∈sg.cps.toList,q7n kvs (.inr ⟨#[o]⟩)=some (.int (q5t (λs=>pcF sg rows (q0s fo.2 fm.2 rows) s o-2*moF rows fo fm) S.cps.toList)))->Q (.ref d) H'
def spExB(K:PySem.W.Frag)(C:Addr):Sp:=λvs H Q _=>∃(x l:Addr) (sg:Str) (rows:List (List Fra)) (fo fm:Fra) (S:Str) (os:List Str),vs=[.ref x,.str S,.ref l]/\PrAt K C H x sg rows fo fm/\Of sg S/\S.cps.size<=1000/\H l=some (.lst (os.map V.str))/\os.length<=1000/\(∀o∈os,Of sg o/\o.cps.size<=1000) ∧
 ∀l' H',Same H H'->H l'=none->H' l'=some (.lst (os.map λo=>V.int (exC (pcF sg rows (q0s fo.2 fm.2 rows)) (moF rows fo fm) S.cps.toList o.cps.toList)))->Q (.ref l') H'
def spExA(K:PySem.W.Frag)(C:Addr):Sp:=λvs H Q _=>∃(x l1 l2:Addr) (sg:Str) (rows:List (List Fra)) (fo fm:Fra) (ss os:List Str),vs=[.ref x,.ref l1,.ref l2]/\PrAt K C H x sg rows fo fm/\H l1=some (.lst (ss.map V.str))/\ss.length<=1000/\(∀o∈ss,Of sg o/\o.cps.size<=1000)/\H l2=some (.lst (os.map V.str))/\os.length<=1000/\(∀o∈os,Of sg o/\o.cps.size<=1000) ∧
 ∀l' H',Same H H'->H l'=none->IMat H' l' ss.length os.length (λi j=>exC (pcF sg rows (q0s fo.2 fm.2 rows)) (moF rows fo fm) (ss.getD i ⟨#[]⟩).cps.toList (os.getD j ⟨#[]⟩).cps.toList)->Q (.ref l') H'
def spAhead:Sp:=λvs H Q _=>∃(l b:Addr) (n:Nat) (f g:Nat->Int),vs=[.ref l,.ref b]/\H l=some (.lst ((List.range n).map λj=>V.int (f j)))/\H b=some (.lst ((List.range (n+1)).map λj=>V.int (g j)))/\n<=1000 ∧
 ∀l' H',Same H H'->H l'=none->H' l'=some (.lst ((List.range (n+1)).map λj=>V.int (rowR f g n (n-j))))->Q (.ref l') H'
def spJoinR:Sp:=λvs H Q _=>∃(l:Addr) (m n:Nat) (E:Nat->Nat->Int),vs=[.ref l,.int n]/\IMat H l m n E/\m<=1000/\n<=1000 ∧
 ∀l' H',Same H H'->H l'=none->IMat H' l' (m+1) (n+1) (q4s E m n)->Q (.ref l') H'
def spJoinI(K:PySem.W.Frag)(C CB CJ X:Addr):Sp:=λvs H Q E=>∃(jn dx x o1 o2:Addr) (sg:Str) (rows:List (List Fra)) (fo fm:Fra) (r1 r2:List Str),vs=[.ref jn,.ref x,.ref o1,.ref o2]/\H jn=some (.ins CJ dx [])/\PrAt K C H x sg rows fo fm/\Blk K CB H o1 r1/\Blk K CB H o2 r2/\Sm2 r1/\Sm2 r2/\q2y r1=true/\q2y r2=true ∧
 ((∀r∈r1++r2,Of (knS sg) r)->∀H',(∀a u,H a=some u->a≠jn->H' a=some u)->JAt CJ H' jn (cols r1 (wid r1)) (cols r2 (wid r2)) r1.length r2.length (pcF sg rows (q0s fo.2 fm.2 rows)) (moF rows fo fm)->Q .non H') ∧
 (∀i j,BadR (knS sg) (r1++r2) i j->∀dx H',(∀a u,H a=some u->a≠jn->H' a=some u)->H' dx=some (xdO dx (fldS i j))->E (.ref X) (some dx) H')
def spFstM(K:PySem.W.Frag)(CJ:Addr):Sp:=λvs H Q _=>∃(jn:Addr) (A B:List Str) (n1 n2:Nat) (pc:Nat->Nat->Int) (mo:Int) (i j:Nat),vs=[.ref jn,.int i,.int j]/\JAt CJ H jn A B n1 n2 pc mo/\A.length<=400/\B.length<=400/\i<=A.length/\j<=B.length ∧
 Q (.str ⟨#[mvF (exF pc mo A B) A.length B.length i j]⟩) H
def spFstMs(K:PySem.W.Frag)(CJ:Addr):Sp:=λvs H Q _=>∃(jn:Addr) (A B:List Str) (n1 n2:Nat) (pc:Nat->Nat->Int) (mo:Int),vs=[.ref jn]/\JAt CJ H jn A B n1 n2 pc mo/\A.length<=400/\B.length<=400 ∧
 ∀l H' cs,Same H H'->H l=none->H' l=some (.lst (cs.map sg))->FstW (exF pc mo A B) A.length B.length cs A.length B.length->Q (.ref l) H'
def spLaidL(K:PySem.W.Frag):Sp:=λvs H Q _=>∃(l1 l2 lm:Addr) (A B:List Str) (g1 g2:Str) (cs:List Nat) (i j:Nat),vs=[.ref l1,.ref l2,.str g1,.str g2,.ref lm]/\H l1=some (.lst (A.map V.str))/\H l2=some (.lst (B.map V.str))/\H lm=some (.lst (cs.map sg))/\A.length<=400/\B.length<=400/\(∀c∈A,c.cps.size<=1000)/\(∀c∈B,c.cps.size<=1000)/\g1.cps.size<=1000/\g2.cps.size<=1000/\Path A.length B.length cs i j ∧
 ∀l H',Same H H'->H l=none->H' l=some (.lst ((osF A B g1 g2 cs cs.length).map V.str))->Q (.ref l) H'
structure JOk(kn:List Nat)(A B:List Str)(n1 n2:Nat):Prop where
 a:q8a kn A n1
 b:q8a kn B n2
 la:A.length<=50
 lb:B.length<=50
 s1:n1<=40
 s2:n2<=40
 p1:0<n1
 kn:45∈kn
def spJoinB(K:PySem.W.Frag)(CB CJ:Addr):Sp:=λvs H Q _=>∃(jn:Addr) (A B:List Str) (n1 n2:Nat) (pc:Nat->Nat->Int) (mo:Int) (kn:List Nat),vs=[.ref jn]/\JAt CJ H jn A B n1 n2 pc mo/\JOk kn A B n1 n2 ∧
 ∀b H' cs,Same H H'->H b=none->FstW (exF pc mo A B) A.length B.length cs A.length B.length->Blk K CB H' b (cols (osF A B (q2d n1) (q2d n2) cs cs.length) (n1+n2))->Q (.ref b) H'
def spJoined(K:PySem.W.Frag)(C CB:Addr):Sp:=λvs H Q _=>∃(x o1 o2:Addr) (sg:Str) (rows:List (List Fra)) (fo fm:Fra) (r1 r2:List Str),vs=[.ref x,.ref o1,.ref o2]/\PrAt K C H x sg rows fo fm/\Blk K CB H o1 r1/\Blk K CB H o2 r2/\Sm2 r1/\Sm2 r2/\q2y r1=true/\q2y r2=true/\(∀r∈r1++r2,Of (knS sg) r) ∧
 ∀b H' cs,Same H H'->H b=none->FstW (exF (pcF sg rows (q0s fo.2 fm.2 rows)) (moF rows fo fm) (cols r1 (wid r1)) (cols r2 (wid r2))) (wid r1) (wid r2) cs (wid r1) (wid r2)->Blk K CB H' b (cols (osF (cols r1 (wid r1)) (cols r2 (wid r2)) (q2d r1.length) (q2d r2.length) cs cs.length) (r1.length+r2.length))->Q (.ref b) H'
end GP
namespace L2
open PySem PySem.Spec PyProof.Rows
theorem pe_fldEK{X:Cx}{K':PySem.W.Frag}{e:Expr}{f:Str}{pos:Pos}{ta:TE}(hK:X.K=K')(he:PE X e ta)(hb:attributeBase e f X.env (eval e X.env)=eval e X.env):PE X (.Attribute e f pos) (tFldE K' ta f):=by subst hK;exact pe_fldE he hb
end L2
namespace GP
open PySem L2 GwM
def papF(own:Int)(fa fb:Nat->Int)(R:Nat->Nat->Int)(i j:Nat):Int:=own+sm fa i+R 0 0+sm fb j-R i j
def gaF(mo:Int)(A:List Str)(n i:Nat):Int:=gpC mo (A.getD i ⟨#[]⟩) n
def IMatN(H0 H:Hp)(l:Addr)(m n:Nat)(f:Nat->Nat->Int):Prop :=
 ∃rs:List Addr,rs.length=m/\H0 l=none/\(∀r∈rs,H0 r=none)/\H l=some (.lst (rs.map V.ref))/\∀i r,rs[i]? =some r->H r=some (.lst ((List.range n).map λj=>V.int (f i j)))
theorem IMatN.mat{H0 H:Hp}{l:Addr}{m n:Nat}{f:Nat->Nat->Int}(h:IMatN H0 H l m n f):IMat H l m n f:=by
 obtain⟨rs,h1,_,_,h4,h5⟩:=h
 exact⟨rs,h1,h4,h5⟩
theorem IMatN.same{H0 H H':Hp}{l:Addr}{m n:Nat}{f:Nat->Nat->Int}(h:IMatN H0 H l m n f)(s:Same H H'):IMatN H0 H' l m n f:=by
 obtain⟨rs,h1,h2,h3,h4,h5⟩:=h
 exact⟨rs,h1,h2,h3,s _ _ h4,λi r hr=>s _ _ (h5 i r hr)⟩
theorem Kp.two{r:L2.St}{a b:Option V}:Kp (none::none::r) (a::b::r):=λi v e=>by
 match i with
 | 0=>cases e
 | 1=>cases e
 |i+2=>exact e
theorem cm_refs{J:It}{g:TG}{te:TE}{σ':L2.St}{H1:Hp}{D:Hp->Prop}{l:Addr}(n:Nat)(F:Nat->HO)(hl:H1 l=none)(hn:n<sizeLine)
  (go:∀i H,Same H1 H->i<n->J.go i H) (st:∀H,Same H1 H->J.stop n H)
  (el:∀i x H H3 (R:VK),Same H1 H->i<n->J.yld i H x H3->(∀r H5,Same H H5->H r=none->H5 r=some (F i)->R (.ref r) H5)->g x σ' H3 λσ4 H4=>Kp σ' σ4/\te σ4 H4 R)
  (fin:∀H' (rs:List Addr),Same H1 H'->rs.length=n->H' l=some (.lst (rs.map V.ref))->(∀i r,rs[i]? =some r->H' r=some (F i))->D H') :
  ∃W:Nat->Nat->List V->Hp->Prop,(∃m,W 0 m [] (upd H1 l (.lst [])))/\∀i m ys H2,W i m ys H2->(J.stop i H2/\D H2) ∨
   (J.go i H2/\∀x H3,J.yld i H2 x H3->g x σ' H3 λσ4 H4=>Kp σ' σ4/\te σ4 H4 λy H5=>H5 l=some (.lst ys)/\ys.length<sizeLine/\∃m',m'<m/\W (i+1) m' (ys++[y]) (upd H5 l (.lst (ys++[y])))):=by
 refine⟨λi m ys H2=>m=n-i/\i<=n/\Same H1 H2/\H2 l=some (.lst ys)/\∃rs:List Addr,ys=rs.map V.ref/\rs.length=i/\∀k r,rs[k]? =some r->H2 r=some (F k)/\r≠l,⟨n,rfl,Nat.zero_le _,GP.Same.upd hl,upd_same,[],rfl,rfl,λk r hr=>by simp at hr⟩,?_⟩
 rintro i m ys H2 ⟨rfl,hi,s2,h2,rs,rfl,hrl,hrs⟩
 by_cases hlt:i<n
 ·refine .inr ⟨go i H2 s2 hlt,λx H3 y=>el i x H2 H3 _ s2 hlt y λr H5 s5 hr0 hr=>?_⟩
  have nr:r≠l:=λz=>by rw[z,h2]at hr0;cases hr0
  refine⟨s5 _ _ h2,by rw[List.length_map];omega,n-(i+1),by omega,rfl,hlt,GP.Same.at (s2.trans s5) hl,upd_same,rs++[r],by rw[List.map_append];rfl,by rw[List.length_append,hrl];rfl,λk q hq=>?_⟩
  by_cases hk:k<rs.length
  ·rw[List.getElem?_append_left hk]at hq
   obtain⟨e1,e2⟩:=hrs k q hq
   exact⟨by rw[upd_ne e2];exact s5 _ _ e1,e2⟩
  ·rw[List.getElem?_append_right (by omega)]at hq
   have:k-rs.length<1:=(List.getElem?_eq_some_iff.mp hq).1
   have ek:k=i:=by omega
   subst ek
   rw[hrl,Nat.sub_self]at hq
   cases hq
   exact⟨by rw[upd_ne nr];exact hr,nr⟩
 ·have e:i=n:=by omega
  subst e
  exact .inl ⟨st H2 s2,fin H2 rs s2 hrl h2 λk r hr=>(hrs k r hr).1⟩
section
variable{sg:Str}{rows:List (List Fra)}{fo fm:Fra}{r1 r2:List Str}
def ppF(sg:Str)(rows:List (List Fra))(fo fm:Fra)(r1 r2:List Str):Nat->Nat->Int :=
 papF (z3h (tcF sg rows fo fm) r1+z3h (tcF sg rows fo fm) r2) (gaF (moF rows fo fm) (cols r1 (wid r1)) r2.length) (gaF (moF rows fo fm) (cols r2 (wid r2)) r1.length)
  (q4s (exF (pcF sg rows (q0s fo.2 fm.2 rows)) (moF rows fo fm) (cols r1 (wid r1)) (cols r2 (wid r2))) (wid r1) (wid r2))
theorem ppF_00:ppF sg rows fo fm r1 r2 0 0=z3h (tcF sg rows fo fm) r1+z3h (tcF sg rows fo fm) r2:=by
 unfold ppF papF
 show _+0+_+0-_=_
 omega
theorem bet_tc(L M:List Nat):bet (tcF sg rows fo fm) L M=exC (pcF sg rows (q0s fo.2 fm.2 rows)) (moF rows fo fm) (sgs L) (sgs M)+((sgs L).length:Int)*(M.length:Int)*moF rows fo fm+((sgs M).length:Int)*(L.length:Int)*moF rows fo fm :=
 bet_eq (λ_ _ a b=>tcF_gg a b) (λ_ _ a b=>tcF_g a b) (λ_ _ a b=>tcF_p a b) L M
theorem z1z{rs:List Str}{i:Nat}(h:i<wid rs):((cols rs (wid rs)).getD i ⟨#[]⟩).cps.toList=q6k rs i/\(q6k rs i).length=rs.length:=by
 refine⟨?_,List.length_map ..⟩
 rw[q0u (show(cols rs (wid rs))[i]? =some (colS rs i) from q1k h)]
 rfl
theorem ppF_a{i j:Nat}(hi:i<wid r1)(hj:j<=wid r2):ppF sg rows fo fm r1 r2 (i+1) j<=ppF sg rows fo fm r1 r2 i j+bet (tcF sg rows fo fm) (q6k r1 i) (List.replicate r2.length 45):=by
 have e:=resF_a (E:=exF (pcF sg rows (q0s fo.2 fm.2 rows)) (moF rows fo fm) (cols r1 (wid r1)) (cols r2 (wid r2))) hi hj
 obtain⟨c1,c2⟩:=z1z hi
 rw[bet_tc,z1q,List.length_replicate,←c1,show exC (pcF sg rows (q0s fo.2 fm.2 rows)) (moF rows fo fm) (sgs ((cols r1 (wid r1)).getD i ⟨#[]⟩).cps.toList) []=0 from rfl,List.length_nil,show ∀a b:Int,((0:Nat):Int)*a*b=0 from λa b=>by simp]
 unfold ppF papF
 show _+(sm _ i+((sgs ((cols r1 (wid r1)).getD i ⟨#[]⟩).cps.toList).length:Int)*(r2.length:Int)*moF rows fo fm)+_+_-_<=_
 omega
theorem ppF_b{i j:Nat}(hi:i<=wid r1)(hj:j<wid r2):ppF sg rows fo fm r1 r2 i (j+1)<=ppF sg rows fo fm r1 r2 i j+bet (tcF sg rows fo fm) (List.replicate r1.length 45) (q6k r2 j):=by
 have e:=resF_b (E:=exF (pcF sg rows (q0s fo.2 fm.2 rows)) (moF rows fo fm) (cols r1 (wid r1)) (cols r2 (wid r2))) hi hj
 obtain⟨c1,c2⟩:=z1z hj
 rw[bet_tc,z1q,List.length_replicate,←c1,show ∀O,exC (pcF sg rows (q0s fo.2 fm.2 rows)) (moF rows fo fm) [] O=0 from λO=>(q2m λ_ _=>q6n _).trans ((q8l 0 _).trans (Int.mul_zero _)),List.length_nil,show ∀a b:Int,((0:Nat):Int)*a*b=0 from λa b=>by simp]
 unfold ppF papF
 show _+_+_+(sm _ j+((sgs ((cols r2 (wid r2)).getD j ⟨#[]⟩).cps.toList).length:Int)*(r1.length:Int)*moF rows fo fm)-_<=_
 omega
theorem ppF_p{i j:Nat}(hi:i<wid r1)(hj:j<wid r2):ppF sg rows fo fm r1 r2 (i+1) (j+1)<=ppF sg rows fo fm r1 r2 i j+bet (tcF sg rows fo fm) (q6k r1 i) (q6k r2 j):=by
 have e:=resF_p (E:=exF (pcF sg rows (q0s fo.2 fm.2 rows)) (moF rows fo fm) (cols r1 (wid r1)) (cols r2 (wid r2))) hi hj
 obtain⟨c1,c2⟩:=z1z hi
 obtain⟨d1,d2⟩:=z1z hj
 rw[bet_tc,c2,d2,←c1,←d1]
 unfold ppF papF
 have ee:exF (pcF sg rows (q0s fo.2 fm.2 rows)) (moF rows fo fm) (cols r1 (wid r1)) (cols r2 (wid r2)) i j=exC (pcF sg rows (q0s fo.2 fm.2 rows)) (moF rows fo fm) (sgs ((cols r1 (wid r1)).getD i ⟨#[]⟩).cps.toList) (sgs ((cols r2 (wid r2)).getD j ⟨#[]⟩).cps.toList):=rfl
 rw[←ee]
 show _+(sm _ i+((sgs ((cols r1 (wid r1)).getD i ⟨#[]⟩).cps.toList).length:Int)*(r2.length:Int)*moF rows fo fm)+_+(sm _ j+((sgs ((cols r2 (wid r2)).getD j ⟨#[]⟩).cps.toList).length:Int)*(r1.length:Int)*moF rows fo fm)-_<=_
 omega
theorem ppF_end{kn:List Nat}(h1:q8a kn (cols r1 (wid r1)) r1.length)(h2:q8a kn (cols r2 (wid r2)) r2.length)(hk:45∈kn)(hp:0<r1.length){cs:List Nat}
  (h:FstW (exF (pcF sg rows (q0s fo.2 fm.2 rows)) (moF rows fo fm) (cols r1 (wid r1)) (cols r2 (wid r2))) (wid r1) (wid r2) cs (wid r1) (wid r2)) :
  ppF sg rows fo fm r1 r2 (wid r1) (wid r2)=z3h (tcF sg rows fo fm) (cols (osF (cols r1 (wid r1)) (cols r2 (wid r2)) (q2d r1.length) (q2d r2.length) cs cs.length) (r1.length+r2.length)):=by
 have l1:(cols r1 (wid r1)).length=wid r1:=q1v
 have l2:(cols r2 (wid r2)).length=wid r2:=q1v
 have h':FstW (exF (pcF sg rows (q0s fo.2 fm.2 rows)) (moF rows fo fm) (cols r1 (wid r1)) (cols r2 (wid r2))) (cols r1 (wid r1)).length (cols r2 (wid r2)).length cs (wid r1) (wid r2):=by rw[l1,l2];exact h
 have hC:=(show Path (cols r1 (wid r1)).length (cols r2 (wid r2)).length cs (wid r1) (wid r2) from h'.path).cols h1 h2 hk
 rw[blkC_turn _ (by omega) hC.size,FstW.cost (tc:=tcF sg rows fo fm) (pc:=pcF sg rows (q0s fo.2 fm.2 rows)) (mo:=moF rows fo fm) (E:=exF (pcF sg rows (q0s fo.2 fm.2 rows)) (moF rows fo fm) (cols r1 (wid r1)) (cols r2 (wid r2))) h1.size h2.size (λ_ _ a b=>tcF_gg a b) (λ_ _ a b=>tcF_g a b) (λ_ _ a b=>tcF_p a b) (λ_ _ _ _=>rfl) h',sm_add,sm_add,←blkC_cols,←blkC_cols,l1,l2,q6z]
 unfold ppF papF
 rw[q6z]
 show _+sm (λi=>_) _+_+sm (λi=>_) _-_=_
 show _+sm (gaF (moF rows fo fm) (cols r1 (wid r1)) r2.length) _+_+sm (gaF (moF rows fo fm) (cols r2 (wid r2)) r1.length) _-_=_+sm (gaF (moF rows fo fm) (cols r1 (wid r1)) r2.length) _+(_+sm (gaF (moF rows fo fm) (cols r2 (wid r2)) r1.length) _)+_
 omega
end
def spSums:Sp:=λvs H Q _=>∃(l:Addr) (n:Nat) (f:Nat->Int),vs=[.ref l]/\H l=some (.lst ((List.range n).map λj=>V.int (f j)))/\n<=1000 ∧
 ∀l' H',Same H H'->H l'=none->H' l'=some (.lst ((List.range (n+1)).map λj=>V.int (sm f j)))->Q (.ref l') H'
def spPaper(K:PySem.W.Frag)(C CB X:Addr):Sp:=λvs H Q E=>∃(x o1 o2:Addr) (sg:Str) (rows:List (List Fra)) (fo fm:Fra) (r1 r2:List Str),vs=[.ref x,.ref o1,.ref o2]/\PrAt K C H x sg rows fo fm/\Blk K CB H o1 r1/\Blk K CB H o2 r2/\Sm2 r1/\Sm2 r2/\q2y r1=true/\q2y r2=true ∧
 ((∀r∈r1++r2,Of (knS sg) r)->∀l H',Same H H'->IMatN H H' l (wid r1+1) (wid r2+1) (ppF sg rows fo fm r1 r2)->Q (.ref l) H') ∧
 (∀i j,BadR (knS sg) (r1++r2) i j->∀dx H',Same H H'->H' dx=some (xdO dx (fldS i j))->E (.ref X) (some dx) H')
def spSquare:Sp:=λvs H Q _=>∃(l:Addr) (m n:Nat) (f:Nat->Nat->Int),vs=[.ref l,.int m,.int n]/\IMat H l (m+1) (n+1) f/\m<=1000/\n<=1000/\∀H',Same H H'->Q (.bl true) H'
def spBetween(K:PySem.W.Frag)(C:Addr):Sp:=λvs H Q _=>∃(x l1 l2:Addr) (sg:Str) (rows:List (List Fra)) (fo fm:Fra) (L M:List Nat),vs=[.ref x,.ref l1,.ref l2]/\PrAt K C H x sg rows fo fm/\H l1=some (.lst (L.map L2.sg))/\H l2=some (.lst (M.map L2.sg))/\(∀a∈L,a∈(knS sg).cps.toList)/\(∀a∈M,a∈(knS sg).cps.toList) ∧
 ∀H',Same H H'->Q (.int (bet (tcF sg rows fo fm) L M)) H'
def spWalkedJ(K:PySem.W.Frag)(C:Addr):Sp:=λvs H Q _=>∃(x a1 a2 lf:Addr) (sg:Str) (rows:List (List Fra)) (fo fm:Fra) (r1 r2:List Str),vs=[.ref x,.ref a1,.ref a2,.ref lf]/\PrAt K C H x sg rows fo fm/\H a1=some (.lst (r1.map V.str))/\H a2=some (.lst (r2.map V.str))/\Sm2 r1/\Sm2 r2/\lenB r1=true/\lenB r2=true/\(∀r∈r1++r2,Of (knS sg) r)/\IMat H lf (wid r1+1) (wid r2+1) (ppF sg rows fo fm r1 r2) ∧
 ∀H',Same H H'->Q (.bl true) H'
def spRefJ(K:PySem.W.Frag)(C CB:Addr):Sp:=λvs H Q _=>∃(x o1 o2:Addr) (sg:Str) (rows:List (List Fra)) (fo fm:Fra) (r1 r2:List Str) (i j:Nat),vs=[.ref x,.ref o1,.ref o2]/\PrAt K C H x sg rows fo fm/\Blk K CB H o1 r1/\Blk K CB H o2 r2/\Sm2 r1/\Sm2 r2/\q2y r1=true/\q2y r2=true/\BadR (knS sg) (r1++r2) i j ∧
 ∀q H',Same H H'->H' q=some (.tup [.int (i:Int),.int (j:Int)])->Q (.ref q) H'
end GP
namespace GP
open PySem L2 GwM
structure St43(K:PySem.W.Frag)(CP CB:Addr)(H H':Hp)(t x a1 a2 o1 o2:Addr)(k:Int)(sg:Str)(rows:List (List Fra))(fo fm:Fra)(r1 r2:List Str):Prop where
 ct:H' t=some (.lst [.int k])
 pr:PrAt K CP (Wo t H') x sg rows fo fm
 l1:Wo t H' a1=some (.lst (r1.map V.str))
 l2:Wo t H' a2=some (.lst (r2.map V.str))
 b1:Blk K CB (Wo t H') o1 r1
 b2:Blk K CB (Wo t H') o2 r2
 off:Same (Wo t H) (Wo t H')
section
variable{K:PySem.W.Frag}{CP CB:Addr}{H H' H'':Hp}{t x a1 a2 o1 o2:Addr}{k k2:Int}{sg:Str}{rows:List (List Fra)}{fo fm:Fra}{r1 r2:List Str}
theorem St43.same(h:St43 K CP CB H H' t x a1 a2 o1 o2 k sg rows fo fm r1 r2)(e:Same H' H''):St43 K CP CB H H'' t x a1 a2 o1 o2 k sg rows fo fm r1 r2 :=
 ⟨e _ _ h.ct,h.pr.same (Wo.same e),Wo.same e _ _ h.l1,Wo.same e _ _ h.l2,h.b1.same (Wo.same e),h.b2.same (Wo.same e),h.off.trans (Wo.same e)⟩
theorem St43.tick(h:St43 K CP CB H H' t x a1 a2 o1 o2 k sg rows fo fm r1 r2):St43 K CP CB H (L2.upd H' t (.lst [.int k2])) t x a1 a2 o1 o2 k2 sg rows fo fm r1 r2:=by
 have e:Wo t (L2.upd H' t (.lst [.int k2]))=Wo t H':=Wo.set
 exact⟨upd_same,by rw[e];exact h.pr,by rw[e];exact h.l1,by rw[e];exact h.l2,by rw[e];exact h.b1,by rw[e];exact h.b2,by rw[e];exact h.off⟩
theorem St43.prH(h:St43 K CP CB H H' t x a1 a2 o1 o2 k sg rows fo fm r1 r2):PrAt K CP H' x sg rows fo fm:=h.pr.same Wo.sub
theorem St43.b1H(h:St43 K CP CB H H' t x a1 a2 o1 o2 k sg rows fo fm r1 r2):Blk K CB H' o1 r1:=h.b1.same Wo.sub
theorem St43.b2H(h:St43 K CP CB H H' t x a1 a2 o1 o2 k sg rows fo fm r1 r2):Blk K CB H' o2 r2:=h.b2.same Wo.sub
theorem St43.l1H(h:St43 K CP CB H H' t x a1 a2 o1 o2 k sg rows fo fm r1 r2):H' a1=some (.lst (r1.map V.str)):=Wo.sub _ _ h.l1
theorem St43.l2H(h:St43 K CP CB H H' t x a1 a2 o1 o2 k sg rows fo fm r1 r2):H' a2=some (.lst (r2.map V.str)):=Wo.sub _ _ h.l2
end
def spRound3(K:PySem.W.Frag):Sp:=λvs H Q _=>∃(s t:Addr) (ns:List Int) (k:Int),vs=[.ref s,.ref t]/\Ctr K H s t ns k/\k<=70000 ∧
 ∀(k':Int) (H':Hp),Same (Wo t H) (Wo t H')->H' t=some (.lst [.int k'])->k<=k'->k'<=k+3000->Q (.bl true) H'
theorem RsOk.put2{r1 r2:List Str}{n1 n2 w1 w2 r k c:Nat}{row o:Str}(h1:RsOk r1 n1 w1)(h2:RsOk r2 n2 w2)(hr:(r1++r2)[r]? =some row)(hk:k<row.cps.size)(ho:o.cps.toList=row.cps.toList.set k c)(hc:q2g c=true):
  RsOk (((r1++r2).set r o).take n1) n1 w1/\RsOk (((r1++r2).set r o).drop n1) n2 w2:=by
 have hl:=h1.len
 by_cases z:r<r1.length
 ·rw[List.getElem?_append_left z]at hr
  have hs:(r1.set r o).length=n1:=by rw[List.length_set];exact hl
  rw[List.set_append_left _ _ z,List.take_left' hs,List.drop_left' hs]
  exact⟨h1.put hr (by rw[←h1.wid row (List.mem_of_getElem? hr)];exact hk) ho hc,h2⟩
 ·rw[List.getElem?_append_right (by omega)]at hr
  rw[List.set_append_right _ _ (by omega),List.take_left' hl,List.drop_left' hl]
  exact⟨h1,h2.put hr (by rw[←h2.wid row (List.mem_of_getElem? hr)];exact hk) ho hc⟩
theorem BadR.mk1{kn:Str}{rs:List Str}{r k c:Nat}{row o:Str}(hO:∀r∈rs,Of kn r)(hr:rs[r]? =some row)(hk:k<row.cps.size)(ho:o.cps.toList=row.cps.toList.set k c)(hc:c∉kn.cps.toList):BadR kn (rs.set r o) r k:=by
 have hrl:=(List.getElem?_eq_some_iff.mp hr).1
 have hkl:k<row.cps.toList.length:=by rw[Array.length_toList];exact hk
 refine⟨⟨o,c,List.getElem?_set_self hrl,by rw[←Array.getElem?_toList,ho,List.getElem?_set_self hkl],hc,λi d hi hd=>?_⟩,λm q hm hq=>?_⟩
 ·rw[←Array.getElem?_toList,ho,List.getElem?_set_ne (by omega)]at hd
  exact hO row (List.mem_of_getElem? hr) d (List.mem_of_getElem? hd)
 ·rw[List.getElem?_set_ne (by omega)]at hq
  exact hO q (List.mem_of_getElem? hq)
theorem FstW.len{E:Nat->Nat->Int}{m n:Nat}{cs:List Nat}{i j:Nat}(h:FstW E m n cs i j):cs.length<=m+n:=by
 have:=h.path.in
 omega
end GP
set_option Elab.async false
set_option linter.all false
set_option maxRecDepth 100000
set_option maxHeartbeats 4000000
namespace G43
open PySem L2 GwM GP
def top(i:Nat):Stmt:=PySem.Challenge.pw_gapweave_k43_join_paper.main.body.getD i (.Pass ⟨0,0,0,0⟩)
abbrev q1i:Stmt:=z5y (top 5) 0
theorem q9i:q0k ["self","row","place"] ["self","row","place"] (q0g q1i):=⟨rfl,rfl,rfl,by decide +kernel,rfl,by decide +kernel,by decide +kernel⟩
abbrev q2c:Stmt:=top 7
theorem q2i:q0k ["one","other","rest"] ["one","other"] (q0g q2c):=⟨rfl,rfl,rfl,by decide +kernel,rfl,by decide +kernel,by decide +kernel⟩
abbrev z1s:Stmt:=top 8
theorem sc_lowest:q0k ["fraction","divisor"] ["fraction"] (q0g z1s):=⟨rfl,rfl,rfl,by decide +kernel,rfl,by decide +kernel,by decide +kernel⟩
abbrev q9k:Stmt:=top 13
theorem z4g:q0k ["sign","number"] ["sign"] (q0g q9k):=⟨rfl,rfl,rfl,by decide +kernel,rfl,by decide +kernel,by decide +kernel⟩
abbrev q5o:Stmt:=top 14
theorem sc_are_signs:q0k ["text"] ["text"] (q0g q5o):=⟨rfl,rfl,rfl,by decide +kernel,rfl,by decide +kernel,by decide +kernel⟩
abbrev q5c:Stmt:=top 15
theorem z3j:q0k ["signs"] ["signs"] (q0g q5c):=⟨rfl,rfl,rfl,by decide +kernel,rfl,by decide +kernel,by decide +kernel⟩
abbrev q1t:Stmt:=top 16
theorem q3s:q0k ["signs","pairs","row"] ["signs","pairs"] (q0g q1t):=⟨rfl,rfl,rfl,by decide +kernel,rfl,by decide +kernel,by decide +kernel⟩
abbrev q3i:Stmt:=top 18
theorem z2k:q0k ["price"] ["price"] (q0g q3i):=⟨rfl,rfl,rfl,by decide +kernel,rfl,by decide +kernel,by decide +kernel⟩
abbrev q3u:Stmt:=top 19
theorem z1f:q0k ["row"] ["row"] (q0g q3u):=⟨rfl,rfl,rfl,by decide +kernel,rfl,by decide +kernel,by decide +kernel⟩
abbrev q6e:Stmt:=top 20
theorem q6s:q0k ["pairs","opening","more","unders","row"] ["pairs","opening","more"] (q0g q6e):=⟨rfl,rfl,rfl,by decide +kernel,rfl,by decide +kernel,by decide +kernel⟩
abbrev q4h:Stmt:=top 21
theorem q2e:q0k ["unders","factors","unit","under","factor"] ["unders"] (q0g q4h):=⟨rfl,rfl,rfl,by decide +kernel,rfl,by decide +kernel,by decide +kernel⟩
abbrev q5w:Stmt:=top 22
theorem q4t:q0k ["factors","product","factor"] ["factors"] (q0g q5w):=⟨rfl,rfl,rfl,by decide +kernel,rfl,by decide +kernel,by decide +kernel⟩
abbrev q7r:Stmt:=top 23
theorem sc_by_unit:q0k ["price","unit"] ["price","unit"] (q0g q7r):=⟨rfl,rfl,rfl,by decide +kernel,rfl,by decide +kernel,by decide +kernel⟩
abbrev q3l:Stmt:=top 24
theorem q1q:q0k ["signs","pairs","unit","costs","one","row","other","price"] ["signs","pairs","unit"] (q0g q3l):=⟨rfl,rfl,rfl,by decide +kernel,rfl,by decide +kernel,by decide +kernel⟩
abbrev q1h:Stmt:=z5y (top 25) 0
theorem q9h:q0k ["self","signs","pairs","opening","more"] ["self","signs","pairs","opening","more"] (q0g q1h):=⟨rfl,rfl,rfl,by decide +kernel,rfl,by decide +kernel,by decide +kernel⟩
abbrev q4d:Stmt:=top 26
theorem sc_pair_cost:q0k ["prices","one","other"] ["prices","one","other"] (q0g q4d):=⟨rfl,rfl,rfl,by decide +kernel,rfl,by decide +kernel,by decide +kernel⟩
abbrev q3n:Stmt:=top 27
theorem sc_more_cost:q0k ["prices"] ["prices"] (q0g q3n):=⟨rfl,rfl,rfl,by decide +kernel,rfl,by decide +kernel,by decide +kernel⟩
abbrev q5d:Stmt:=top 30
theorem q3g:q0k ["known","rows","number","row","place","sign"] ["known","rows"] (q0g q5d):=⟨rfl,rfl,rfl,by decide +kernel,rfl,by decide +kernel,by decide +kernel⟩
abbrev q3h:Stmt:=top 31
theorem q7p:q0k ["place","move","step"] ["place","move"] (q0g q3h):=⟨rfl,rfl,rfl,by decide +kernel,rfl,by decide +kernel,by decide +kernel⟩
abbrev q6u:Stmt:=top 34
theorem sc_things_at:q0k ["texts","place"] ["texts","place"] (q0g q6u):=⟨rfl,rfl,rfl,by decide +kernel,rfl,by decide +kernel,by decide +kernel⟩
abbrev q9j:Stmt:=top 35
theorem sc_turned:q0k ["texts","many"] ["texts","many"] (q0g q9j):=⟨rfl,rfl,rfl,by decide +kernel,rfl,by decide +kernel,by decide +kernel⟩
abbrev q3p:Stmt:=top 36
theorem z4y:q0k ["rows"] ["rows"] (q0g q3p):=⟨rfl,rfl,rfl,by decide +kernel,rfl,by decide +kernel,by decide +kernel⟩
abbrev q4i:Stmt:=top 37
theorem q1m:q0k ["ones","others","one_gaps","other_gaps","moves","columns","place","move","step","left","right"] ["ones","others","one_gaps","other_gaps","moves"] (q0g q4i):=⟨rfl,rfl,rfl,by decide +kernel,rfl,by decide +kernel,by decide +kernel⟩
abbrev q9l:Stmt:=top 38
theorem sc_is_gaps:q0k ["column"] ["column"] (q0g q9l):=⟨rfl,rfl,rfl,by decide +kernel,rfl,by decide +kernel,by decide +kernel⟩
abbrev q5i:Stmt:=top 39
theorem sc_signs_of:q0k ["things"] ["things"] (q0g q5i):=⟨rfl,rfl,rfl,by decide +kernel,rfl,by decide +kernel,by decide +kernel⟩
abbrev q1u:Stmt:=top 40
theorem q3t:q0k ["rows","row"] ["rows"] (q0g q1u):=⟨rfl,rfl,rfl,by decide +kernel,rfl,by decide +kernel,by decide +kernel⟩
abbrev q6d:Stmt:=top 42
theorem z4z:q0k ["row"] ["row"] (q0g q6d):=⟨rfl,rfl,rfl,by decide +kernel,rfl,by decide +kernel,by decide +kernel⟩
abbrev q4l:Stmt:=top 43
theorem q7q:q0k ["rows","row"] ["rows"] (q0g q4l):=⟨rfl,rfl,rfl,by decide +kernel,rfl,by decide +kernel,by decide +kernel⟩
abbrev q3x:Stmt:=top 44
theorem q7l:q0k ["rows","column"] ["rows"] (q0g q3x):=⟨rfl,rfl,rfl,by decide +kernel,rfl,by decide +kernel,by decide +kernel⟩
abbrev q1g:Stmt:=z5y (top 45) 0
theorem z0h:q0k ["self","rows"] ["self","rows"] (q0g q1g):=⟨rfl,rfl,rfl,by decide +kernel,rfl,by decide +kernel,by decide +kernel⟩
abbrev q2o:Stmt:=top 46
theorem q8u:q0k ["prices","rows"] ["prices","rows"] (q0g q2o):=⟨rfl,rfl,rfl,by decide +kernel,rfl,by decide +kernel,by decide +kernel⟩
abbrev q5v:Stmt:=top 47
theorem z4x:q0k ["prices","one","other"] ["prices","one","other"] (q0g q5v):=⟨rfl,rfl,rfl,by decide +kernel,rfl,by decide +kernel,by decide +kernel⟩
abbrev q5b:Stmt:=top 48
theorem q3f:q0k ["prices","column","cost","row","other"] ["prices","column"] (q0g q5b):=⟨rfl,rfl,rfl,by decide +kernel,rfl,by decide +kernel,by decide +kernel⟩
abbrev q5e:Stmt:=top 49
theorem z3k:q0k ["prices","block"] ["prices","block"] (q0g q5e):=⟨rfl,rfl,rfl,by decide +kernel,rfl,by decide +kernel,by decide +kernel⟩
abbrev q4k:Stmt:=top 51
theorem z2l:q0k ["prices","column","many"] ["prices","column","many"] (q0g q4k):=⟨rfl,rfl,rfl,by decide +kernel,rfl,by decide +kernel,by decide +kernel⟩
abbrev q3w:Stmt:=top 52
theorem z1g:q0k ["prices","columns","many"] ["prices","columns","many"] (q0g q3w):=⟨rfl,rfl,rfl,by decide +kernel,rfl,by decide +kernel,by decide +kernel⟩
abbrev q4w:Stmt:=top 53
theorem q6h:q0k ["prices","signs","extras","other"] ["prices","signs"] (q0g q4w):=⟨rfl,rfl,rfl,by decide +kernel,rfl,by decide +kernel,by decide +kernel⟩
abbrev q3v:Stmt:=top 54
theorem q7k:q0k ["prices","signs","others","extras"] ["prices","signs","others"] (q0g q3v):=⟨rfl,rfl,rfl,by decide +kernel,rfl,by decide +kernel,by decide +kernel⟩
abbrev q6f:Stmt:=top 55
theorem q6t:q0k ["prices","ones","others","known","signs"] ["prices","ones","others"] (q0g q6f):=⟨rfl,rfl,rfl,by decide +kernel,rfl,by decide +kernel,by decide +kernel⟩
abbrev q4x:Stmt:=top 56
theorem q3c:q0k ["extras","below","rests","j","least"] ["extras","below"] (q0g q4x):=⟨rfl,rfl,rfl,by decide +kernel,rfl,by decide +kernel,by decide +kernel⟩
abbrev q6b:Stmt:=top 57
theorem q6q:q0k ["extras","many","rests","row"] ["extras","many"] (q0g q6b):=⟨rfl,rfl,rfl,by decide +kernel,rfl,by decide +kernel,by decide +kernel⟩
abbrev q1c:Stmt:=z5y (top 58) 0
theorem q3m:q0k ["self","prices","one","other","ones","others"] ["self","prices","one","other"] (q0g q1c):=⟨rfl,rfl,rfl,by decide +kernel,rfl,by decide +kernel,by decide +kernel⟩
abbrev q6c:Stmt:=top 59
theorem q6r:q0k ["joining","i","j","rest","below"] ["joining","i","j"] (q0g q6c):=⟨rfl,rfl,rfl,by decide +kernel,rfl,by decide +kernel,by decide +kernel⟩
abbrev q5a:Stmt:=top 60
theorem q3e:q0k ["joining","place","moves","move"] ["joining"] (q0g q5a):=⟨rfl,rfl,rfl,by decide +kernel,rfl,by decide +kernel,by decide +kernel⟩
abbrev q4j:Stmt:=top 61
theorem q5m:q0k ["joining","moves","columns"] ["joining"] (q0g q4j):=⟨rfl,rfl,rfl,by decide +kernel,rfl,by decide +kernel,by decide +kernel⟩
abbrev z1t:Stmt:=top 62
theorem sc_joined:q0k ["prices","one","other"] ["prices","one","other"] (q0g z1t):=⟨rfl,rfl,rfl,by decide +kernel,rfl,by decide +kernel,by decide +kernel⟩
abbrev q4v:Stmt:=top 63
theorem q6g:q0k ["costs","sums","cost"] ["costs"] (q0g q4v):=⟨rfl,rfl,rfl,by decide +kernel,rfl,by decide +kernel,by decide +kernel⟩
abbrev q4o:Stmt:=top 64
theorem q2b:q0k ["prices","one","other","joining","own","by_b","paper","by_a","rests","number"] ["prices","one","other"] (q0g q4o):=⟨rfl,rfl,rfl,by decide +kernel,rfl,by decide +kernel,by decide +kernel⟩
abbrev q4e:Stmt:=top 66
theorem q6p:q0k ["_law_script","_law_at","_law_cell","_law_m"] ["_law_script","_law_at"] (q0g q4e):=⟨rfl,rfl,rfl,by decide +kernel,rfl,by decide +kernel,by decide +kernel⟩
abbrev q6w:Stmt:=top 67
theorem q4m:q0k ["_law_script","_law_at","_law_many","_law_some","_law_m","_law_turn"] ["_law_script","_law_at","_law_many"] (q0g q6w):=⟨rfl,rfl,rfl,by decide +kernel,rfl,by decide +kernel,by decide +kernel⟩
abbrev q6y:Stmt:=top 68
theorem q4n:q0k ["_law_script","_law_at","_law_m","_law_cell","_law_under"] ["_law_script","_law_at"] (q0g q6y):=⟨rfl,rfl,rfl,by decide +kernel,rfl,by decide +kernel,by decide +kernel⟩
abbrev q5z:Stmt:=top 69
theorem q4u:q0k ["_law_script","_law_at","_law_signs_here","_law_same","_law_pairs","_law_i","_law_j"] ["_law_script","_law_at","_law_signs_here","_law_same"] (q0g q5z):=⟨rfl,rfl,rfl,by decide +kernel,rfl,by decide +kernel,by decide +kernel⟩
abbrev q6a:Stmt:=top 70
theorem q3r:q0k ["_law_script","_law_at","_law_signs_here","_law_many","_law_column_here","_law_k","_law_m"] ["_law_script","_law_at","_law_signs_here","_law_many"] (q0g q6a):=⟨rfl,rfl,rfl,by decide +kernel,rfl,by decide +kernel,by decide +kernel⟩
abbrev q8f:Stmt:=top 71
theorem q5l:q0k ["_law_script","_law_at","_law_signs_here","_law_many","_law_columns","_law_rows_here","_law_k","_law_column_here"] ["_law_script","_law_at","_law_signs_here","_law_many","_law_columns"] (q0g q8f):=⟨rfl,rfl,rfl,by decide +kernel,rfl,by decide +kernel,by decide +kernel⟩
abbrev q5n:Stmt:=top 72
theorem sc_law_thing:q0k ["_law_prices_here","_law_one","_law_other"] ["_law_prices_here","_law_one","_law_other"] (q0g q5n):=⟨rfl,rfl,rfl,by decide +kernel,rfl,by decide +kernel,by decide +kernel⟩
abbrev q8g:Stmt:=top 73
theorem q4c:q0k ["_law_prices_here","_law_rows_here","_law_total","_law_i","_law_j","_law_k"] ["_law_prices_here","_law_rows_here"] (q0g q8g):=⟨rfl,rfl,rfl,by decide +kernel,rfl,by decide +kernel,by decide +kernel⟩
abbrev q6v:Stmt:=top 74
theorem sc_law_whole:q0k ["_law_found"] ["_law_found"] (q0g q6v):=⟨rfl,rfl,rfl,by decide +kernel,rfl,by decide +kernel,by decide +kernel⟩
abbrev q5y:Stmt:=top 75
theorem q9g:q0k ["_law_found","_law_high","_law_wide","_law_row"] ["_law_found","_law_high","_law_wide"] (q0g q5y):=⟨rfl,rfl,rfl,by decide +kernel,rfl,by decide +kernel,by decide +kernel⟩
abbrev q4z:Stmt:=top 76
theorem q3d:q0k ["_law_prices_here","_law_left","_law_right","_law_total","_law_one","_law_other"] ["_law_prices_here","_law_left","_law_right"] (q0g q4z):=⟨rfl,rfl,rfl,by decide +kernel,rfl,by decide +kernel,by decide +kernel⟩
abbrev q5x:Stmt:=top 77
theorem q1o:q0k ["_law_prices_here","_law_ones","_law_others","_law_found","_law_lefts","_law_rights","_law_gaps","_law_blanks","_law_i","_law_j","_law_here","_law_more"] ["_law_prices_here","_law_ones","_law_others","_law_found"] (q0g q5x):=⟨rfl,rfl,rfl,by decide +kernel,rfl,by decide +kernel,by decide +kernel⟩
abbrev q8e:Stmt:=top 78
theorem sc_law_with:q0k ["_law_row","_law_k","_law_thing_here"] ["_law_row","_law_k","_law_thing_here"] (q0g q8e):=⟨rfl,rfl,rfl,by decide +kernel,rfl,by decide +kernel,by decide +kernel⟩
abbrev q4y:Stmt:=top 79
theorem q4g:q0k ["_law_prices_here","_law_one","_law_other","_law_place","e"] ["_law_prices_here","_law_one","_law_other"] (q0g q4y):=⟨rfl,rfl,rfl,by decide +kernel,rfl,by decide +kernel,by decide +kernel⟩
abbrev q6x:Stmt:=top 80
theorem q0z:q0k ["_law_script","_law_at","_law_m","_law_many","_law_signs_here","_law_prices_here","_law_ones","_law_others","_law_one","_law_other","_law_end","_law_turn","_law_found","_law_n","_law_rows_here","_law_r","_law_k"] ["_law_script","_law_at"] (q0g q6x):=⟨rfl,rfl,rfl,by decide +kernel,rfl,by decide +kernel,by decide +kernel⟩
abbrev z3l:Stmt:=top 81
theorem sc_law:q0k ["_law_script","_law_at","_law_k"] ["_law_script"] (q0g z3l):=⟨rfl,rfl,rfl,by decide +kernel,rfl,by decide +kernel,by decide +kernel⟩
structure Pm where
 t_FIRST_SIGN:Tok
 t_LAST_SIGN:Tok
 a_NO_SIGNS:Addr
 a_STEPS:Addr
 v_STEPS0:Addr
 v_STEPS1:Addr
 v_STEPS2:Addr
 t_GAP:Tok
 C_Prices:Addr
 C_Block:Addr
 C_Joining:Addr
 C_WeaveError:Addr
 C_NoBlock:Addr
 C_NoSign:Addr
structure Txt(K:PySem.W.Frag)(mg:Str->Option Value)(p:Pm)(w:World):Prop where
 z_abs:mg "abs" =none
 z_len:mg "len" =none
 z_ord:mg "ord" =none
 z_set:mg "set" =none
 z_tuple:mg "tuple" =none
 z_zip:mg "zip" =none
 z_enumerate:mg "enumerate" =none
 z_range:mg "range" =none
 z_isinstance:mg "isinstance" =none
 z_int:mg "int" =none
 z_bool:mg "bool" =none
 z_all:mg "all" =none
 z_sum:mg "sum" =none
 z_list:mg "list" =none
 z_min:mg "min" =none
 z_reversed:mg "reversed" =none
 g_FIRST_SIGN:mg "FIRST_SIGN" =some (.int 32 p.t_FIRST_SIGN)
 g_LAST_SIGN:mg "LAST_SIGN" =some (.int 126 p.t_LAST_SIGN)
 g_NO_SIGNS:mg "NO_SIGNS" =some (.ref p.a_NO_SIGNS)
 q_NO_SIGNS:∀H:Hp,SqT K H p.a_NO_SIGNS [.int 34,.int 37,.int 45]
 g_STEPS:mg "STEPS" =some (.ref p.a_STEPS)
 kd_STEPS:∀P:Program,KDict P w K p.a_STEPS [(.inr (Str.ofString "p"),.ref p.v_STEPS0),(.inr (Str.ofString "a"),.ref p.v_STEPS1),(.inr (Str.ofString "b"),.ref p.v_STEPS2)]
 q_STEPS0:∀H:Hp,SqT K H p.v_STEPS0 [.int 1,.int 1]
 q_STEPS1:∀H:Hp,SqT K H p.v_STEPS1 [.int 1,.int 0]
 q_STEPS2:∀H:Hp,SqT K H p.v_STEPS2 [.int 0,.int 1]
 g_GAP:mg "GAP" =some (.str (Str.ofString "-") p.t_GAP)
 mg_Prices:mg "Prices" =some (.ref p.C_Prices)
 cl_Prices:Cls K p.C_Prices
 n_Prices_signs:NoAttr K p.C_Prices "signs"
 n_Prices_pairs:NoAttr K p.C_Prices "pairs"
 n_Prices_opening:NoAttr K p.C_Prices "opening"
 n_Prices_more:NoAttr K p.C_Prices "more"
 n_Prices_factors:NoAttr K p.C_Prices "factors"
 n_Prices_unit:NoAttr K p.C_Prices "unit"
 n_Prices_costs:NoAttr K p.C_Prices "costs"
 n_Prices_opening_units:NoAttr K p.C_Prices "opening_units"
 n_Prices_more_units:NoAttr K p.C_Prices "more_units"
 mg_Block:mg "Block" =some (.ref p.C_Block)
 cl_Block:Cls K p.C_Block
 n_Block_rows:NoAttr K p.C_Block "rows"
 mg_Joining:mg "Joining" =some (.ref p.C_Joining)
 cl_Joining:Cls K p.C_Joining
 n_Joining_ones:NoAttr K p.C_Joining "ones"
 n_Joining_others:NoAttr K p.C_Joining "others"
 n_Joining_one_gaps:NoAttr K p.C_Joining "one_gaps"
 n_Joining_other_gaps:NoAttr K p.C_Joining "other_gaps"
 n_Joining_by_a:NoAttr K p.C_Joining "by_a"
 n_Joining_by_b:NoAttr K p.C_Joining "by_b"
 n_Joining_extras:NoAttr K p.C_Joining "extras"
 n_Joining_rests:NoAttr K p.C_Joining "rests"
 mg_WeaveError:mg "WeaveError" =some (.ref p.C_WeaveError)
 mg_NoBlock:mg "NoBlock" =some (.ref p.C_NoBlock)
 xc_NoBlock:XClsE K p.C_NoBlock
 mg_NoSign:mg "NoSign" =some (.ref p.C_NoSign)
 xb_NoSign:XB K p.C_NoSign
 xt_NoSign:XTy K p.C_NoSign
 xs_NoSign:XSt K p.C_NoSign
 xk_NoSign:∃f,XClsI K p.C_NoSign f
 n_NoSign_row:NoAttr K p.C_NoSign "row"
 n_NoSign_place:NoAttr K p.C_NoSign "place"
 xw_WeaveError:XBase K p.C_WeaveError
 ks_NoSign_NoSign:PySem.W.subIn K (.ref p.C_NoSign) (.ref p.C_NoSign)=some true
theorem bo_abs:bootBuiltins "abs" =some (.builtin "abs"):=by decide +kernel
theorem q0y:bootBuiltins "len" =some (.builtin "len"):=by decide +kernel
theorem bo_ord:bootBuiltins "ord" =some (.builtin "ord"):=by decide +kernel
theorem bo_set:bootBuiltins "set" =some (.type "set"):=by decide +kernel
theorem z6i:bootBuiltins "tuple" =some (.type "tuple"):=by decide +kernel
theorem q5h:bootBuiltins "isinstance" =some (.builtin "isinstance"):=by decide +kernel
theorem bo_int:bootBuiltins "int" =some (.type "int"):=by decide +kernel
theorem bo_bool:bootBuiltins "bool" =some (.type "bool"):=by decide +kernel
theorem bo_all:bootBuiltins "all" =some (.builtin "all"):=by decide +kernel
theorem bo_sum:bootBuiltins "sum" =some (.builtin "sum"):=by decide +kernel
theorem bo_list:bootBuiltins "list" =some (.type "list"):=by decide +kernel
theorem bo_min:bootBuiltins "min" =some (.builtin "min"):=by decide +kernel
section
variable{P:Program}{w:World}{K:PySem.W.Frag}{mg:Str->Option Value}{base:Heap}
theorem q8w {f_greatest_divisor:Addr} {fd_greatest_divisor:FuncData} {p:Pm} (T:Txt K mg p w) (D_greatest_divisor:Dn K mg "greatest_divisor" q2c ["one","other"] f_greatest_divisor fd_greatest_divisor)  :FnOk P w K mg base CX0 1 f_greatest_divisor fd_greatest_divisor ["one","other"] spGcd:=by
 refine D_greatest_divisor.fn.ok q2i (λvs H Q E h=>?_) (λcdv A outer s H vs Q E hr h=>?_)
 ·obtain⟨a,b,rfl,_⟩:=h
  rfl
 ·obtain⟨a,b,rfl,hb,k⟩:=h
  refine⟨_,(q0c (ps_while PassesOwn.never (q0v z5g (pv 1) q0e (q1e _)) (q0c (q0n (i:=2) q2i.nd rfl (Or.inl rfl) (q0p q2l (pv 0) (pv 1)))
   (q0c (q0n (i:=0) q2i.nd rfl (Or.inl rfl) (pv 1))
   (q0d (q0n (i:=1) q2i.nd rfl (Or.inl rfl) (pv 2))))))
   (q0d (q0r (q0i (call_abs) rfl T.z_abs bo_abs (q0a (pv 0) q0b))))),?_⟩
  refine⟨λm σ H'=>H'=H/\∃(x y:Int) (r:Option V),σ=[some (.int x),some (.int y),r]/\0<=y/\Int.gcd x y=Int.gcd a b/\m=y.toNat,⟨b.toNat,rfl,a,b,none,rfl,hb,rfl,rfl⟩,?_⟩
  rintro m σ H' ⟨rfl,x,y,r,rfl,hy,hg,rfl⟩
  refine⟨_,rfl,rfl,_,rfl,?_⟩
  refine z1b (λh0=>?_) (λh0=>?_)
  ·have l1:=Int.emod_nonneg x h0
   have l2:=Int.emod_lt_of_pos x (show 0<y by omega)
   refine⟨λσ' H''=>H''=H'/\∃r,σ'=[some (.int y),some (.int (x % y)),r],?_,?_⟩
   ·rintro σ' H'' ⟨rfl,r,rfl⟩
    exact⟨(x % y).toNat,by omega,rfl,y,x % y,r,rfl,l1,(gcd_turn x y).trans hg,rfl⟩
   ·exact⟨_,rfl,_,rfl,_,_,rfl,rfl,(by show 0<y;omega),_,rfl,_,rfl,rfl,_,rfl⟩
  ·subst h0
   refine⟨_,rfl,_,rfl,?_⟩
   rw[gcd_end,hg]
   exact k
theorem ok_lowest {f_lowest f_greatest_divisor:Addr} {fd_lowest fd_greatest_divisor:FuncData} {p:Pm} (T:Txt K mg p w) (D_lowest:Dn K mg "lowest" z1s ["fraction"] f_lowest fd_lowest) (D_greatest_divisor:Dn K mg "greatest_divisor" q2c ["one","other"] f_greatest_divisor fd_greatest_divisor) (G_greatest_divisor:FnOk P w K mg base CX0 1 f_greatest_divisor fd_greatest_divisor ["one","other"] spGcd):FnOk P w K mg base CX0 2 f_lowest fd_lowest ["fraction"] (spLow K):=by
 refine D_lowest.fn.ok sc_lowest (λvs H Q E h=>?_) (λcdv A outer s H vs Q E hr h=>?_)
 ·obtain⟨p,f,rfl,_⟩:=h
  rfl
 ·obtain⟨p,⟨a,b⟩,rfl,hS,hb,hb2,k⟩:=h
  have hb0:0<b:=hb
  have g1:=z0o a hb0
  have g2:=gcd_le a hb0
  have hb':b<1073741824:=hb2
  refine⟨_,(q0c (q0n (i:=1) sc_lowest.nd rfl (Or.inl rfl) (q0h G_greatest_divisor (hr.mono (by decide)) rfl D_greatest_divisor.m D_greatest_divisor.fn.kp D_greatest_divisor.b .nil q0t (q0a (q0w q3j (pv 0) q0e (λ_ _=>rfl)) (q0a (q0w q3j (pv 0) q0e (λ_ _=>rfl)) q0b))))
   (q0d (q0r (q7t (q0a (q0p q2u (q0w q3j (pv 0) q0e (λ_ _=>rfl)) (pv 1)) (q0a (q0p q2u (q0w q3j (pv 0) q0e (λ_ _=>rfl)) (pv 1)) q0b)))))),?_⟩
  refine⟨_,rfl,_,_,_,_,rfl,rfl,hS,rfl,_,rfl,_,_,_,_,rfl,rfl,hS,rfl,a,b,rfl,Int.le_of_lt hb,?_⟩
  refine⟨_,rfl,_,_,_,_,rfl,rfl,hS,rfl,_,rfl,_,_,rfl,rfl,⟨g1,by omega⟩,_,rfl,_,_,_,_,rfl,rfl,hS,rfl,_,rfl,_,_,rfl,rfl,⟨g1,by omega⟩,?_⟩
  exact⟨by show 2<=sizeLine;decide,λq hq=>k q hq⟩
theorem z2s {f_lowest_price f_lowest:Addr} {fd_lowest_price fd_lowest:FuncData} {p:Pm} (T:Txt K mg p w) (D_lowest_price:Dn K mg "lowest_price" q3i ["price"] f_lowest_price fd_lowest_price) (D_lowest:Dn K mg "lowest" z1s ["fraction"] f_lowest fd_lowest) (G_lowest:FnOk P w K mg base CX0 2 f_lowest fd_lowest ["fraction"] (spLow K)):FnOk P w K mg base CX0 3 f_lowest_price fd_lowest_price ["price"] (z0f K):=by
 refine D_lowest_price.fn.ok z2k (λvs H Q E h=>?_) (λcdv A outer s H vs Q E hr h=>?_)
 ·obtain⟨p,f,rfl,_⟩:=h
  rfl
 ·obtain⟨p,f,rfl,hS,⟨h1,h2⟩,k⟩:=h
  refine⟨_,(q0c (q2h (q0v op_lt (q0w q3j (pv 0) q0e (λ_ _=>rfl)) q0e (q1e _)) q5p q1a)
   (q0d (q0r (q0h G_lowest (hr.mono (by decide)) rfl D_lowest.m D_lowest.fn.kp D_lowest.b .nil q0t (q0a (pv 0) q0b))))),?_⟩
  refine⟨_,rfl,_,_,_,_,rfl,rfl,hS,rfl,_,_,rfl,rfl,_,rfl,?_⟩
  refine q2n (λz=>absurd z (by omega)) λ_=>?_
  exact⟨_,rfl,p,f,rfl,hS,by omega,h2,k⟩
theorem z1h {f_lowest_prices f_lowest_price:Addr} {fd_lowest_prices fd_lowest_price:FuncData} {p:Pm} (T:Txt K mg p w) (D_lowest_prices:Dn K mg "lowest_prices" q3u ["row"] f_lowest_prices fd_lowest_prices) (D_lowest_price:Dn K mg "lowest_price" q3i ["price"] f_lowest_price fd_lowest_price) (G_lowest_price:FnOk P w K mg base CX0 3 f_lowest_price fd_lowest_price ["price"] (z0f K)):FnOk P w K mg base CX0 4 f_lowest_prices fd_lowest_prices ["row"] (z2h K):=by
 refine D_lowest_prices.fn.ok z1f (λvs H Q E h=>?_) (λcdv A outer s H vs Q E hr h=>?_)
 ·obtain⟨c,fs,rfl,_⟩:=h
  rfl
 ·obtain⟨c,fs,rfl,⟨ps,hc,hp⟩,ho,hz,k⟩:=h
  have hl:=Paired.len hp
  refine⟨_,(q0d (q0r (q7v (q7i) rfl T.z_tuple z6i (q0a (q2f (N:=["price"]) rfl (λ_=>⟨[],CompSc.plain (by decide +kernel) rfl (by decide +kernel) (by decide +kernel)⟩) (pi_cp (pv 0)) (λ_ _ _ _ _ _ _=>(q0m (i:=0) (show(["price"]:List Str).Nodup by decide +kernel) rfl (Or.inl rfl))) (λ_ _ _ _ _ _ _=>(q0h G_lowest_price (hr.mono (by decide)) rfl D_lowest_price.m D_lowest_price.fn.kp D_lowest_price.b .nil q0t (q0a (pv 0) q0b)))) q0b)))),?_⟩
  refine⟨_,rfl,c,_,rfl,hc,λl hl0=>?_⟩
  refine⟨λi m ys H2=>m=fs.length-i/\i<=fs.length/\Same H H2/\H2 l=some (.lst ys)/\∃qs:List Addr,ys=qs.map V.ref/\qs.length=i/\Paired (λq f=>H2 q=some (.tup [.int f.1,.int f.2])) qs ((fs.map loF).take i),⟨fs.length,rfl,Nat.zero_le _,Same.upd hl0,upd_same,[],rfl,rfl,.nil⟩,?_⟩
  rintro i m ys H2 ⟨rfl,hi,s2,hl2,qs,rfl,hq,hP⟩
  have zc:c.at K H2 (ps.map V.ref):=Same.cp s2 hc
  by_cases hlt:i<fs.length
  ·have hpi:i<ps.length:=by omega
   have e1:(ps.map V.ref)[i]? =some (.ref ps[i]):=by rw[List.getElem?_map,List.getElem?_eq_getElem hpi];rfl
   refine .inr ⟨⟨_,_,zc,e1⟩,?_⟩
   rintro x H3 ⟨rfl,hx⟩
   have ex:=hx _ zc
   rw[e1]at ex
   cases ex
   obtain⟨f,ef,hf⟩:=Paired.at hp (List.getElem?_eq_getElem hpi)
   refine⟨Kp.rep _ _,?_⟩
   refine⟨_,rfl,ps[i],f,rfl,hf.same s2,ho f (List.mem_of_getElem? ef),λq hqn=>?_⟩
   have nql:q≠l:=λz=>by rw[z,hl2]at hqn;cases hqn
   refine⟨by rw[upd_ne (Ne.symm nql)];exact hl2,?_,fs.length-(i+1),by omega,rfl,hlt,Same.at (s2.trans (Same.upd hqn)) hl0,upd_same,qs++[q],by rw[List.map_append];rfl,by rw[List.length_append,hq];rfl,?_⟩
   ·rw[List.length_map,hq]
    exact Nat.lt_of_lt_of_le hlt (Nat.le_trans hz (by decide))
   ·rw[q9v ef]
    refine GP.Paired.snoc (Paired.mapP hP λa b z=>?_) ?_
    ·have n1:a≠q:=q0x z hqn
     have n2:a≠l:=q9r z hl2 (by intro z;cases z)
     rw[upd_ne n2,upd_ne n1]
     exact z
    ·rw[upd_ne nql]
     exact upd_same
  ·have ei:i=fs.length:=by omega
   subst ei
   refine .inl ⟨⟨_,zc,by rw[List.length_map];omega⟩,?_⟩
   refine⟨l,_,rfl,.inl ⟨SqL.of hl2,λq hqn=>?_⟩⟩
   refine k q _ (s2.trans (Same.upd hqn)) (Same.free s2 hqn) ⟨qs,SqT.of upd_same,?_⟩
   rw[List.take_of_length_le (by rw[List.length_map];exact Nat.le_refl _)]at hP
   exact Paired.mapP hP λa b z=>SqT.of (by rw[upd_ne (q0x z hqn)];exact z)
theorem z5s {f_all_unders:Addr} {fd_all_unders:FuncData} {p:Pm} (T:Txt K mg p w) (D_all_unders:Dn K mg "all_unders" q6e ["pairs","opening","more"] f_all_unders fd_all_unders)  :FnOk P w K mg base CX0 1 f_all_unders fd_all_unders ["pairs","opening","more"] (spUnders K):=by
 refine D_all_unders.fn.ok q6s (λvs H Q E h=>?_) (λcdv A outer s H vs Q E hr h=>?_)
 ·obtain⟨Pp,o,m,rows,fo,fm,rfl,_⟩:=h
  rfl
 ·obtain⟨Pp,o,m,rows,fo,fm,rfl,⟨cs,hc,hp⟩,hfo,hfm,hl12,hr12,k⟩:=h
  refine⟨_,(q0c (q0n (i:=3) q6s.nd rfl (Or.inl rfl) (q4p (q0a (q0w q3j (pv 1) q0e (λ_ _=>rfl)) (q0a (q0w q3j (pv 2) q0e (λ_ _=>rfl)) q0b))))
   (q0c (q1n PassesOwn.never rfl (pi_cp (pv 0)) (q0m (i:=4) q6s.nd rfl (Or.inl rfl)) (q0d (q1r (z0i PySem.F.plainAttrs_list PySem.F.slot_list_extend PySem.F.type_list_extend mt_extend (pv 3) (q0a (q2f (N:=["price"]) rfl (λ_=>⟨[],CompSc.plain (by decide +kernel) rfl (by decide +kernel) (by decide +kernel)⟩) (pi_cp (pv 4)) (λ_ _ _ _ _ _ _=>(q0m (i:=0) (show(["price"]:List Str).Nodup by decide +kernel) rfl (Or.inl rfl))) (λ_ _ _ _ _ _ _=>(q0w (ix_tupK (K':=K) rfl) (pv 0) q0e (λ_ _=>rfl)))) q0b)))))
   (q0d (q0r (pv 3))))),?_⟩
  refine⟨_,rfl,_,_,_,_,rfl,rfl,hfo,rfl,_,rfl,_,_,_,_,rfl,rfl,hfm,rfl,(by show 2<=sizeLine;decide),λl hl=>?_⟩
  have flen:∀i,((rows.take i).flatten.map (·.2)).length<=12*12:=λi=>by
   have:∀(q:List (List Fra)),(∀r∈q,r.length<=12)->q.flatten.length<=12*q.length:=λq=>by
    induction q with
    |nil=>intro _;simp
    |cons r q ih =>
     intro h
     have a:=h r List.mem_cons_self
     have b:=ih λr' hr=>h r' (List.mem_cons_of_mem _ hr)
     rw[List.flatten_cons,List.length_append,List.length_cons]
     omega
   have a:=this (rows.take i) λr hr=>hr12 r (List.mem_of_mem_take hr)
   have b:(rows.take i).length<=12:=by rw[List.length_take];omega
   rw[List.length_map]
   omega
  refine⟨_,rfl,.tup Pp,_,rfl,Same.cp (Same.upd hl) (c:=.tup Pp) hc,for_cp (K:=K) (c:=.tup Pp) (xs:=cs.map Cp.val) (λi σ H2=>∃v4,σ=[some (.ref Pp),some (.ref o),some (.ref m),some (.ref l),v4]/\Same H H2/\H2 l=some (.lst ((fo.2::fm.2::(rows.take i).flatten.map (·.2)).map V.int)))
   ⟨_,rfl,Same.upd hl,upd_same⟩ (λi σ H2 _ ⟨_,_,s2,_⟩=>Same.cp s2 hc) ?_ ?_⟩
  ·rintro i x σ H2 hx ⟨v4,rfl,s2,hl2⟩
   obtain⟨c,ec,rfl⟩:=q7m hx
   obtain⟨row,er,⟨ps,hc2,hp2⟩⟩:=Paired.at hp ec
   have hc2':=Same.cp s2 hc2
   refine⟨_,rfl,.inl ⟨rfl,_,SqL.of hl2⟩,?_⟩
   refine⟨_,rfl,c,_,rfl,hc2',λlx hlx=>?_⟩
   refine⟨λj m' ys H3=>m'=row.length-j/\j<=row.length/\Same H2 H3/\H3 lx=some (.lst ys)/\ys=((row.take j).map (·.2)).map V.int,⟨row.length,rfl,Nat.zero_le _,Same.upd hlx,upd_same,rfl⟩,?_⟩
   rintro j m' ys H3 ⟨rfl,hj,s3,hlx3,rfl⟩
   have zr:=Same.cp s3 hc2'
   by_cases hjt:j<row.length
   ·have hpj:j<ps.length:=by rw[Paired.len hp2];exact hjt
    have e1:(ps.map V.ref)[j]? =some (.ref ps[j]):=by rw[List.getElem?_map,List.getElem?_eq_getElem hpj];rfl
    refine .inr ⟨⟨_,_,zr,e1⟩,?_⟩
    rintro y H4 ⟨rfl,hy2⟩
    have ey:=hy2 _ zr
    rw[e1]at ey
    cases ey
    refine⟨Kp.rep _ _,?_⟩
    obtain⟨f,ef,hf⟩:=Paired.at hp2 (List.getElem?_eq_getElem hpj)
    have hf':=hf.same (s2.trans s3)
    refine⟨_,rfl,_,_,_,_,rfl,rfl,hf',rfl,?_⟩
    refine⟨hlx3,?_,row.length-(j+1),by omega,rfl,hjt,Same.at s3 hlx,upd_same,?_⟩
    ·rw[List.length_map,List.length_map,List.length_take]
     have:=hr12 row (List.mem_of_getElem? er)
     exact Nat.lt_of_lt_of_le (show min j row.length<100 by omega) (by decide)
    ·rw[q5k ef,List.map_append,List.map_append]
     rfl
   ·have ej:j=row.length:=by omega
    subst ej
    rw[List.take_of_length_le (Nat.le_refl _)]at hlx3
    refine .inl ⟨⟨_,zr,by rw[List.length_map,Paired.len hp2];exact Nat.le_refl _⟩,?_⟩
    have hl3:=s3 _ _ hl2
    refine⟨l,lx,_,_,rfl,rfl,hl3,hlx3,?_,?_⟩
    ·have a:=flen i
     have a2:=hr12 row (List.mem_of_getElem? er)
     have a3:((fo.2::fm.2::(rows.take i).flatten.map (·.2)).map V.int).length+((row.map (·.2)).map V.int).length<=200:=by
      rw[List.length_map,List.length_cons,List.length_cons,List.length_map,List.length_map,List.length_map]
      rw[List.length_map]at a
      omega
     exact Nat.le_trans a3 (by decide)
    refine⟨_,rfl,Same.at (s2.trans s3) hl,?_⟩
    rw[upd_same,q5k er,List.flatten_append,List.map_append]
    simp
  ·rintro σ H2 ⟨v4,rfl,s2,hl2⟩
   refine⟨_,rfl,?_⟩
   rw[List.length_map,Paired.len hp,List.take_of_length_le (Nat.le_refl _)]at hl2
   exact k l H2 s2 hl hl2
theorem z2q {f_unit_factors f_greatest_divisor:Addr} {fd_unit_factors fd_greatest_divisor:FuncData} {p:Pm} (T:Txt K mg p w) (D_unit_factors:Dn K mg "unit_factors" q4h ["unders"] f_unit_factors fd_unit_factors) (D_greatest_divisor:Dn K mg "greatest_divisor" q2c ["one","other"] f_greatest_divisor fd_greatest_divisor) (G_greatest_divisor:FnOk P w K mg base CX0 1 f_greatest_divisor fd_greatest_divisor ["one","other"] spGcd):FnOk P w K mg base CX0 2 f_unit_factors fd_unit_factors ["unders"] (spFactors K):=by
 refine D_unit_factors.fn.ok q2e (λvs H Q E h=>?_) (λcdv A outer s H vs Q E hr h=>?_)
 ·obtain⟨l,ns,rfl,_⟩:=h
  rfl
 ·obtain⟨l,ns,rfl,hl,hn,hs,k⟩:=h
  refine⟨_,(q0c (q0n (i:=1) q2e.nd rfl (Or.inl rfl) (q4p q0b))
   (q0c (q0n (i:=2) q2e.nd rfl (Or.inl rfl) q0e)
   (q0c (q1n PassesOwn.never rfl (q2s (pv 0)) (q0m (i:=3) q2e.nd rfl (Or.inl rfl)) (q0c (q0n (i:=4) q2e.nd rfl (Or.inl rfl) (q0p q2u (pv 3) (q0h G_greatest_divisor (hr.mono (by decide)) rfl D_greatest_divisor.m D_greatest_divisor.fn.kp D_greatest_divisor.b .nil q0t (q0a (pv 2) (q0a (pv 3) q0b)))))
   (q0d (q2h (q0v op_gt (pv 4) q0e (q1e _)) (q0c (q1r (z0i PySem.F.plainAttrs_list PySem.F.slot_list_append PySem.F.type_list_append q2v (pv 1) (q0a (pv 4) q0b)))
   (q0d (q0n (i:=2) q2e.nd rfl (Or.inl rfl) (q0p q7w (pv 2) (pv 4))))) q1a))))
   (q0d (q0r (pv 1)))))),?_⟩
  refine⟨by show 0<=sizeLine;decide,λq hq=>?_⟩
  refine⟨_,rfl,l,rfl,⟨_,Same.seq (Same.upd hq) hl⟩,q5g (K:=K) (a:=l) (xs:=ns.map V.int) (λi σ H2=>∃v3 v4,σ=[some (.ref l),some (.ref q),some (.int (z0r (ns.take i)).2),v3,v4]/\Same H H2/\H2 q=some (.lst ((z0r (ns.take i)).1.map V.int)))
   ⟨_,_,rfl,Same.upd hq,upd_same⟩ (λi σ H2 _ ⟨_,_,_,s2,_⟩=>Same.seq s2 hl) ?_ ?_⟩
  ·rintro i x σ H2 hx ⟨v3,v4,rfl,s2,hq2⟩
   obtain⟨b,eb,rfl⟩:=q7m hx
   have hi:i<ns.length:=(List.getElem?_eq_some_iff.mp eb).1
   have hb:=hs b (List.mem_of_getElem? eb)
   have F:=z3e hs i (Nat.le_of_lt hi)
   have es:z0r (ns.take (i+1))=z0q (z0r (ns.take i)) b:=by rw[q5k eb,z4n]
   have fl:=F.len
   rw[List.length_take]at fl
   rw[es]
   unfold z0q
   generalize hp:z0r (ns.take i)=pr at *
   obtain⟨fs,u⟩:=pr
   obtain⟨b1,b2⟩:=hb
   have g1:=z0o u b1
   have g2:=gcd_le u b1
   obtain⟨d1,d2⟩:=fac_div (u:=u) ⟨b1,b2⟩
   refine⟨_,rfl,_,rfl,_,rfl,u,b,rfl,Int.le_of_lt b1,_,_,rfl,rfl,⟨g1,by omega⟩,_,rfl,_,_,rfl,rfl,_,rfl,?_⟩
   refine q2n (λh1=>?_) (λh1=>?_)
   ·rw[if_pos h1]
    refine⟨_,rfl,.inl ⟨rfl,_,SqL.of hq2⟩,_,rfl,q,_,_,rfl,rfl,hq2,?_,?_⟩
    ·rw[List.length_map]
     exact Nat.lt_of_le_of_lt (show fs.length<=1000 by dsimp only at fl;omega) (by decide)
    refine⟨_,rfl,_,rfl,_,_,rfl,rfl,.inr ⟨by omega,by omega⟩,?_⟩
    exact⟨_,_,rfl,Same.at s2 hq,by rw[upd_same,List.map_append];rfl⟩
   ·rw[if_neg h1]
    exact⟨_,_,rfl,s2,hq2⟩
  ·rintro σ H2 ⟨v3,v4,rfl,s2,hq2⟩
   refine⟨_,rfl,?_⟩
   rw[List.length_map,List.take_of_length_le (Nat.le_refl _)]at hq2
   exact k q H2 s2 hq hq2
theorem z5i {f_product_of:Addr} {fd_product_of:FuncData} {p:Pm} (T:Txt K mg p w) (D_product_of:Dn K mg "product_of" q5w ["factors"] f_product_of fd_product_of)  :FnOk P w K mg base CX0 1 f_product_of fd_product_of ["factors"] (spProd K):=by
 refine D_product_of.fn.ok q4t (λvs H Q E h=>?_) (λcdv A outer s H vs Q E hr h=>?_)
 ·obtain⟨l,fs,rfl,_⟩:=h
  rfl
 ·obtain⟨l,fs,rfl,hl,hs,k⟩:=h
  refine⟨_,(q0c (q0n (i:=1) q4t.nd rfl (Or.inl rfl) q0e)
   (q0c (q1n PassesOwn.never rfl (q2s (pv 0)) (q0m (i:=2) q4t.nd rfl (Or.inl rfl)) (q0d (q0n (i:=1) q4t.nd rfl (Or.inl rfl) (q0p q7w (pv 1) (pv 2)))))
   (q0d (q0r (pv 1))))),?_⟩
  refine⟨_,rfl,l,rfl,⟨_,hl⟩,q5g (K:=K) (a:=l) (xs:=fs.map V.int) (λi σ H2=>H2=H/\∃v2,σ=[some (.ref l),some (.int (prodI (fs.take i))),v2])
   ⟨rfl,_,rfl⟩ (λi σ H2 _ ⟨e,_⟩=>by subst e;exact hl) ?_ ?_⟩
  ·rintro i x σ H2 hx ⟨rfl,v2,rfl⟩
   obtain⟨b,eb,rfl⟩:=q7m hx
   obtain⟨b1,b2⟩:=hs b (List.mem_of_getElem? eb)
   refine⟨_,rfl,_,rfl,_,_,rfl,rfl,.inr ⟨by omega,by omega⟩,rfl,some (.int b),?_⟩
   rw[q5k eb,z4i]
   rfl
  ·rintro σ H2 ⟨rfl,v2,rfl⟩
   refine⟨_,rfl,?_⟩
   rw[List.length_map,List.take_of_length_le (Nat.le_refl _)]
   exact k
theorem ok_by_unit {f_by_unit:Addr} {fd_by_unit:FuncData} {p:Pm} (T:Txt K mg p w) (D_by_unit:Dn K mg "by_unit" q7r ["price","unit"] f_by_unit fd_by_unit)  :FnOk P w K mg base CX0 1 f_by_unit fd_by_unit ["price","unit"] (z4s K):=by
 refine D_by_unit.fn.ok sc_by_unit (λvs H Q E h=>?_) (λcdv A outer s H vs Q E hr h=>?_)
 ·obtain⟨p,f,u,rfl,_⟩:=h
  rfl
 ·obtain⟨p,f,u,rfl,hS,⟨h1,h2⟩,b1,b2,k⟩:=h
  refine⟨_,(q0d (q0r (q0p op_mulB (q0w q3j (pv 0) q0e (λ_ _=>rfl)) (q0p q2u (pv 1) (q0w q3j (pv 0) q0e (λ_ _=>rfl)))))),?_⟩
  exact⟨_,rfl,_,_,_,_,rfl,rfl,hS,rfl,_,rfl,_,rfl,_,_,_,_,rfl,rfl,hS,rfl,_,_,rfl,rfl,⟨by omega,h2⟩,_,_,rfl,rfl,⟨b1,b2⟩,k⟩
end
section
variable{P:Program}{w:World}{K:PySem.W.Frag}{mg:Str->Option Value}{base:Heap}
theorem ok_is_sign {f_is_sign:Addr} {fd_is_sign:FuncData} {p:Pm} (T:Txt K mg p w) (D_is_sign:Dn K mg "is_sign" q9k ["sign"] f_is_sign fd_is_sign)  :FnOk P w K mg base CX0 1 f_is_sign fd_is_sign ["sign"] spIsSign:=by
 refine D_is_sign.fn.ok z4g (λvs H Q E h=>?_) (λcdv A outer s H vs Q E hr h=>?_)
 ·obtain⟨c,rfl,_⟩:=h
  rfl
 ·obtain⟨c,rfl,k⟩:=h
  refine⟨_,(q0c (q0n (i:=1) z4g.nd rfl (Or.inl rfl) (q0i (call_ord) rfl T.z_ord bo_ord (q0a (pv 0) q0b)))
   (q0d (q0r (pe_and (pe_chain op_le op_le (q3y (v:=.int 32) rfl T.g_FIRST_SIGN ⟨_,rfl⟩) (pv 1) (q3y (v:=.int 126) rfl T.g_LAST_SIGN ⟨_,rfl⟩)) (pe_one (z5e op_notIn_seq (pv 1) (q3y (v:=.ref p.a_NO_SIGNS) rfl T.g_NO_SIGNS rfl) (by with_unfolding_all rfl))))))),?_⟩
  refine⟨_,rfl,_,rfl,rfl,?_⟩
  have k':Q (.bl ((decide ((32:Int)<=(c:Int))&&decide ((c:Int)<=126))&& !inV (.int c) [.int 34,.int 37,.int 45])) H:=k
  refine⟨_,rfl,_,_,rfl,rfl,_,rfl,?_⟩
  refine q2n (λh1=>?_) (λh1=>?_)
  ·refine⟨_,_,rfl,rfl,_,rfl,?_⟩
   have h1':(32:Int)<=(c:Int):=h1
   rw[decide_eq_true h1',Bool.true_and]at k'
   refine q2n (λh2=>?_) (λh2=>?_)
   ·have h2':(c:Int)<=126:=h2
    rw[decide_eq_true h2',Bool.true_and]at k'
    exact⟨_,rfl,_,_,rfl,.inr (T.q_NO_SIGNS _),rfl,rfl,k'⟩
   ·have h2':¬(c:Int)<=126:=h2
    rw[decide_eq_false h2',Bool.false_and]at k'
    exact k'
  ·have h1':¬(32:Int)<=(c:Int):=h1
   rw[decide_eq_false h1',Bool.false_and,Bool.false_and]at k'
   exact⟨_,rfl,z1x k'⟩
theorem ok_are_signs {f_are_signs f_is_sign:Addr} {fd_are_signs fd_is_sign:FuncData} {p:Pm} (T:Txt K mg p w) (D_are_signs:Dn K mg "are_signs" q5o ["text"] f_are_signs fd_are_signs) (D_is_sign:Dn K mg "is_sign" q9k ["sign"] f_is_sign fd_is_sign) (G_is_sign:FnOk P w K mg base CX0 1 f_is_sign fd_is_sign ["sign"] spIsSign):FnOk P w K mg base CX0 2 f_are_signs fd_are_signs ["text"] z0g:=by
 refine D_are_signs.fn.ok sc_are_signs (λvs H Q E h=>?_) (λcdv A outer s H vs Q E hr h=>?_)
 ·obtain⟨x,rfl,_⟩:=h
  rfl
 ·obtain⟨x,rfl,hx,k⟩:=h
  refine⟨_,(q0d (q0r (q0i (z3g rfl) rfl T.z_all bo_all (q0a (q2f (N:=["sign"]) rfl (λ_=>⟨[],CompSc.plain (by decide +kernel) rfl (by decide +kernel) (by decide +kernel)⟩) (z2o (pv 0)) (λ_ _ _ _ _ _ _=>(q0m (i:=0) (show(["sign"]:List Str).Nodup by decide +kernel) rfl (Or.inl rfl))) (λ_ _ _ _ _ _ _=>(q0h G_is_sign (hr.mono (by decide)) rfl D_is_sign.m D_is_sign.fn.kp D_is_sign.b .nil q0t (q0a (pv 0) q0b)))) q0b)))),?_⟩
  refine⟨_,rfl,x,rfl,λl hl=>?_⟩
  refine⟨λi m ys H2=>m=x.cps.size-i/\i<=x.cps.size/\Same H H2/\H2 l=some (.lst ys)/\ys=((x.cps.toList.take i).map q2g).map V.bl,⟨x.cps.size,rfl,Nat.zero_le _,Same.upd hl,upd_same,rfl⟩,?_⟩
  rintro i m ys H2 ⟨rfl,hi,s2,hl2,rfl⟩
  by_cases hlt:i<x.cps.size
  ·refine .inr ⟨hlt,?_⟩
   rintro y H3 ⟨rfl,c,ec,rfl⟩
   refine⟨Kp.rep _ _,?_⟩
   refine⟨_,rfl,c,rfl,?_⟩
   refine⟨hl2,?_,x.cps.size-(i+1),by omega,rfl,hlt,Same.at s2 hl,upd_same,?_⟩
   ·rw[List.length_map,List.length_map,List.length_take]
    exact Nat.lt_of_le_of_lt (show min i x.cps.toList.length<=1000 by omega) (by decide)
   ·rw[q5k (x:=c) (by rw[Array.getElem?_toList];exact ec),List.map_append,List.map_append]
    rfl
  ·have ei:i=x.cps.size:=by omega
   subst ei
   refine .inl ⟨Nat.le_refl _,?_⟩
   rw[List.take_of_length_le (by rw[Array.length_toList];exact Nat.le_refl _)]at hl2
   refine⟨l,_,rfl,SqL.of hl2,?_⟩
   have e:(x.cps.toList.map q2g).all id=x.cps.toList.all q2g:=by rw[List.all_map];rfl
   rw[e]
   exact k H2 s2
theorem z3t {f_check_signs f_are_signs:Addr} {fd_check_signs fd_are_signs:FuncData} {p:Pm} (T:Txt K mg p w) (D_check_signs:Dn K mg "check_signs" q5c ["signs"] f_check_signs fd_check_signs) (D_are_signs:Dn K mg "are_signs" q5o ["text"] f_are_signs fd_are_signs) (G_are_signs:FnOk P w K mg base CX0 2 f_are_signs fd_are_signs ["text"] z0g):FnOk P w K mg base CX0 3 f_check_signs fd_check_signs ["signs"] z0x:=by
 refine D_check_signs.fn.ok z3j (λvs H Q E h=>?_) (λcdv A outer s H vs Q E hr h=>?_)
 ·obtain⟨x,rfl,_⟩:=h
  rfl
 ·obtain⟨x,rfl,⟨h1,h2,h3,h4⟩,k⟩:=h
  refine⟨_,(q0c (q2h (q0v q7c (q0i (q0l) rfl T.z_len q0y (q0a (pv 0) q0b)) q0e (q1e _)) q5p q1a)
   (q0c (q2h (z0y (q8q (q0h G_are_signs (hr.mono (by decide)) rfl D_are_signs.m D_are_signs.fn.kp D_are_signs.b .nil q0t (q0a (pv 0) q0b)))) q5p q1a)
   (q0d (q2h (q0v z5g (q0i (z6f) rfl T.z_len q0y (q0a (q7v (call_setT rfl) rfl T.z_set bo_set (q0a (pv 0) q0b)) q0b)) (q0i (q0l) rfl T.z_len q0y (q0a (pv 0) q0b)) (q1e _)) q5p q1a)))),?_⟩
  have hz:x.length<=sizeLine:=Nat.le_trans h2 (by decide)
  refine⟨_,rfl,_,_,rfl,⟨hz,rfl⟩,rfl,_,rfl,?_⟩
  refine ite_eq (λz=>absurd z (by show ¬((x.cps.size:Nat):Int)=0;omega)) λ_=>?_
  refine⟨_,rfl,x,rfl,Nat.le_trans h2 (by decide),λH2 s2=>?_⟩
  refine⟨_,rfl,?_⟩
  rw[List.all_eq_true.mpr h3]
  refine z3a ?_
  refine⟨_,rfl,x,rfl,Nat.lt_of_le_of_lt (Nat.succ_le_succ h2) (by decide),λp hp=>?_⟩
  refine⟨p,_,rfl,upd_same,_,rfl,_,_,rfl,⟨hz,rfl⟩,rfl,_,rfl,?_⟩
  refine z1b (λz=>absurd (by rw[met_signs h4];rfl) z) λ_=>?_
  exact k _ (s2.trans (Same.upd hp))
theorem q7d {f_check_lengths_prices:Addr} {fd_check_lengths_prices:FuncData} {p:Pm} (T:Txt K mg p w) (D_check_lengths_prices:Da K mg "check_lengths_prices" "check_lengths" q1t ["signs","pairs"] f_check_lengths_prices fd_check_lengths_prices)  :FnOk P w K mg base CX0 1 f_check_lengths_prices fd_check_lengths_prices ["signs","pairs"] (q8n K):=by
 refine D_check_lengths_prices.fn.ok q3s (λvs H Q E h=>?_) (λcdv A outer s H vs Q E hr h=>?_)
 ·obtain⟨x,c,rows,rfl,_⟩:=h
  rfl
 ·obtain⟨x,c,rows,rfl,⟨nc,cs,ncs,hc,hp⟩,hx,⟨hq1,hq2⟩,k⟩:=h
  refine⟨_,(q0c (q2h (q0v z5g (q0i (q0l) rfl T.z_len q0y (q0a (pv 1) q0b)) (q0i (q0l) rfl T.z_len q0y (q0a (pv 0) q0b)) (q1e _)) q5p q1a)
   (q0d (q1n PassesOwn.never rfl (pi_cp (pv 1)) (q0m (i:=2) q3s.nd rfl (Or.inl rfl)) (q0d (q2h (q0v z5g (q0i (q0l) rfl T.z_len q0y (q0a (pv 2) q0b)) (q0i (q0l) rfl T.z_len q0y (q0a (pv 0) q0b)) (q1e _)) q5p q1a))))),?_⟩
  have hz:x.length<=sizeLine:=Nat.le_trans hx (by decide)
  have hl:(cs.map Cp.val).length=x.cps.size:=by rw[List.length_map,Paired.len hp,hq1]
  refine⟨_,rfl,_,_,rfl,cp_len hc nc,_,rfl,_,_,rfl,⟨hz,rfl⟩,rfl,_,rfl,?_⟩
  refine z1b (λz=>absurd (by rw[hl];rfl) z) λ_=>?_
  refine⟨_,rfl,c,_,rfl,hc,for_cp (K:=K) (c:=c) (xs:=cs.map Cp.val) (λi σ H2=>H2=H/\∃v,σ=[some (.str x),some c.val,v]) ⟨rfl,_,rfl⟩ (λi σ H2 _ ⟨e,_⟩=>by subst e;exact hc) ?_ ?_⟩
  ·rintro i y σ H2 hy ⟨rfl,v,rfl⟩
   obtain⟨d,ed,rfl⟩:∃d,cs[i]? =some d/\y=d.val:=by
    rw[List.getElem?_map]at hy
    cases e:cs[i]? with
    |none=>rw[e]at hy;cases hy
    |some d=>rw[e]at hy;exact⟨d,rfl,(Option.some.inj hy).symm⟩
   obtain⟨row,er,hr2⟩:=Paired.at hp ed
   refine⟨_,rfl,_,_,rfl,hr2.len (ncs d (List.mem_of_getElem? ed)),_,rfl,_,_,rfl,⟨hz,rfl⟩,rfl,_,rfl,?_⟩
   refine z1b (λz=>absurd (by rw[hq2 row (List.mem_of_getElem? er)];rfl) z) λ_=>?_
   exact⟨rfl,_,rfl⟩
  ·rintro σ H2 ⟨rfl,v,rfl⟩
   exact k
end
section
variable{P:Program}{w:World}{K:PySem.W.Frag}{mg:Str->Option Value}{base:Heap}
theorem z0l {f_costs_by_signs f_by_unit:Addr} {fd_costs_by_signs fd_by_unit:FuncData} {p:Pm} (T:Txt K mg p w) (D_costs_by_signs:Dn K mg "costs_by_signs" q3l ["signs","pairs","unit"] f_costs_by_signs fd_costs_by_signs) (D_by_unit:Dn K mg "by_unit" q7r ["price","unit"] f_by_unit fd_by_unit) (G_by_unit:FnOk P w K mg base CX0 1 f_by_unit fd_by_unit ["price","unit"] (z4s K)):FnOk P w K mg base CX0 2 f_costs_by_signs fd_costs_by_signs ["signs","pairs","unit"] (spCosts K):=by
 refine D_costs_by_signs.fn.ok q1q (λvs H Q E h=>?_) (λcdv A outer s H vs Q E hr h=>?_)
 ·obtain⟨x,Pp,u,rows,rfl,_⟩:=h
  rfl
 ·obtain⟨x,Pp,u,rows,rfl,hM,hx,nd,⟨hq1,hq2⟩,ho,k⟩:=h
  refine⟨_,(q0c (q0n (i:=3) q1q.nd rfl (Or.inl rfl) pe_dnewT)
   (q0c (q1n PassesOwn.never rfl (pi_zip rfl rfl T.z_zip (q0a (pv 0) (q0a (pv 1) q0b))) (z2p (n:=2) rfl (q2p (q0m (i:=4) q1q.nd rfl (Or.inl rfl)) (q2p (q0m (i:=5) q1q.nd rfl (Or.inl rfl)) q8v))) (q0d (q1n PassesOwn.never rfl (pi_zip rfl rfl T.z_zip (q0a (pv 0) (q0a (pv 5) q0b))) (z2p (n:=2) rfl (q2p (q0m (i:=6) q1q.nd rfl (Or.inl rfl)) (q2p (q0m (i:=7) q1q.nd rfl (Or.inl rfl)) q8v))) (q0d (ps_dput (z3y hr) (pv 3) (q7t (q0a (pv 4) (q0a (pv 6) q0b))) (q0h G_by_unit (hr.mono (by decide)) rfl D_by_unit.m D_by_unit.fn.kp D_by_unit.b .nil q0t (q0a (pv 7) (q0a (pv 2) q0b))) rfl)))))
   (q0d (q0r (pv 3))))),?_⟩
  intro d hd
  obtain⟨qs,hqs,hp⟩:=hM
  have hlen:qs.length=x.cps.size:=by rw[Paired.len hp,hq1]
  have hmin:min (q2r x).length (qs.map V.ref).length=x.cps.size:=by rw[q3o,List.length_map,hlen,Nat.min_self]
  refine⟨_,rfl,_,rfl,.txt x,.tup Pp,_,_,rfl,rfl,Dat.tup (Dat.of (Same.upd hd)) hqs,for_zip (K:=K) (c:=.txt x) (d:=.tup Pp) (xs:=q2r x) (ys:=qs.map V.ref) (λi σ H2=>∃kvs v4 v5 v6 v7,σ=[some (.str x),some (.ref Pp),some (.int u),some (.ref d),v4,v5,v6,v7]/\Same H H2/\H2 d=some (.dT kvs)/\kvs.length<=i*x.cps.size/\CostTo kvs x rows u i 0)
   ⟨[],_,_,_,_,rfl,Same.upd hd,upd_same,Nat.zero_le _,CostTo.nil x rows u⟩ (λi σ H2 _ ⟨kvs,v4,v5,v6,v7,_,s2,_⟩=>⟨rfl,Dat.tup (Dat.of s2) hqs⟩) ?_ ?_⟩
  ·rintro i y z p1 σ H2 hy hz hp1 ⟨kvs,v4,v5,v6,v7,rfl,s2,hd2,hk,hc⟩
   obtain⟨a,ha,rfl⟩:=q7o hy
   obtain⟨q,hq,rfl⟩:=q7m hz
   obtain⟨row,er,hrow⟩:=Paired.at hp hq
   have hi:i<x.cps.size:=by rw[←hlen];exact(List.getElem?_eq_some_iff.mp hq).1
   obtain⟨ps,hps,hpp⟩:=hrow
   have hpl:ps.length=x.cps.size:=by rw[Paired.len hpp,hq2 row (List.mem_of_getElem? er)]
   have hmin2:min (q2r x).length (ps.map V.ref).length=x.cps.size:=by rw[q3o,List.length_map,hpl,Nat.min_self]
   refine⟨p1,_,rfl,SqT.of upd_same,rfl,_,_,rfl,_,_,rfl,rfl,?_⟩
   have nd1:d≠p1:=q0x hd2 hp1
   refine⟨_,rfl,_,rfl,.txt x,.tup q,_,_,rfl,rfl,Dat.tup (Dat.of (s2.trans (Same.upd hp1))) hps,for_zip (K:=K) (c:=.txt x) (d:=.tup q) (xs:=q2r x) (ys:=ps.map V.ref)
    (λj σ H3=>∃kvs v6 v7,σ=[some (.str x),some (.ref Pp),some (.int u),some (.ref d),some (.str ⟨#[a]⟩),some (.ref q),v6,v7]/\Same H H3/\H3 d=some (.dT kvs)/\kvs.length<=i*x.cps.size+j/\CostTo kvs x rows u i j)
    ⟨kvs,v6,v7,rfl,s2.trans (Same.upd hp1),by rw[upd_ne nd1];exact hd2,hk,hc⟩ (λj σ H3 _ ⟨kvs,v6,v7,_,s3,_⟩=>⟨rfl,Dat.tup (Dat.of s3) hps⟩) ?_ ?_⟩
   ·rintro j y z p2 σ H3 hy hz hp2 ⟨kvs,v6,v7,rfl,s3,hd3,hk,hc⟩
    obtain⟨b,hb,rfl⟩:=q7o hy
    obtain⟨pr,hpr,rfl⟩:=q7m hz
    obtain⟨f,ef,hf⟩:=Paired.at hpp hpr
    have hj:j<x.cps.size:=by rw[←hpl];exact(List.getElem?_eq_some_iff.mp hpr).1
    obtain⟨o1,o2,o3⟩:=ho row (List.mem_of_getElem? er) f (List.mem_of_getElem? ef)
    refine⟨p2,_,rfl,SqT.of upd_same,rfl,_,_,rfl,_,_,rfl,rfl,?_⟩
    have s4:=s3.trans (Same.upd (o:=.tup [.str ⟨#[b]⟩,.ref pr]) hp2)
    have hd4:upd H3 p2 (.tup [.str ⟨#[b]⟩,.ref pr]) d=some (.dT kvs):=by rw[upd_ne (q0x hd3 hp2)];exact hd3
    refine⟨_,rfl,_,rfl,pr,f,u,rfl,hf.same s4,o1,o2.bg,o3.bg,?_⟩
    refine⟨_,rfl,_,rfl,_,rfl,by show 2<=sizeLine;decide,λt ht=>?_⟩
    have hd5:upd (upd H3 p2 (.tup [.str ⟨#[b]⟩,.ref pr])) t (.tup [.str ⟨#[a]⟩,.str ⟨#[b]⟩]) d=some (.dT kvs):=by rw[upd_ne (q0x hd4 ht)];exact hd4
    have hsz:kvs.length<sizeLine:=by
     have:i*x.cps.size<=100*100:=Nat.mul_le_mul (by omega) hx
     have:kvs.length<20000:=by omega
     exact Nat.lt_of_lt_of_le this (by decide)
    refine⟨d,_,rfl,DPut.t (k:=z1m a b) hd5 upd_same hsz,?_⟩
    refine⟨putK kvs (z1m a b) (.int (f.1*(u / f.2))),_,_,rfl,Same.at (s4.trans (Same.upd ht)) hd,upd_same,?_,hc.put nd ha hb ⟨row,er,ef⟩⟩
    have:=q5r kvs (z1m a b) (.int (f.1*(u / f.2)))
    omega
   ·rintro σ H3 ⟨kvs,v6,v7,rfl,s3,hd3,hk,hc⟩
    rw[hmin2]at hk hc
    refine⟨kvs,_,_,_,_,rfl,s3,hd3,?_,hc.row (Nat.le_refl _)⟩
    rw[Nat.succ_mul]
    exact hk
  ·rintro σ H2 ⟨kvs,v4,v5,v6,v7,rfl,s2,hd2,hk,hc⟩
   rw[hmin]at hc
   exact⟨_,rfl,k d H2 kvs s2 hd hd2 (hc.all (Nat.le_refl _))⟩
theorem ok_pair_cost {f_pair_cost:Addr} {fd_pair_cost:FuncData} {p:Pm} (T:Txt K mg p w) (D_pair_cost:Dn K mg "pair_cost" q4d ["prices","one","other"] f_pair_cost fd_pair_cost)  :FnOk P w K mg base CX0 1 f_pair_cost fd_pair_cost ["prices","one","other"] (q8d K p.C_Prices):=by
 refine D_pair_cost.fn.ok sc_pair_cost (λvs H Q E h=>?_) (λcdv A outer s H vs Q E hr h=>?_)
 ·obtain⟨x,sg,rows,fo,fm,i,j,a,b,f,rfl,_⟩:=h
  rfl
 ·obtain⟨x,sg,rows,fo,fm,i,j,a,b,f,rfl,⟨_,_,_,_,_,_,_,dx,Pp,o,m,d,kvs,h1,h2,h3,h4,h5,h6⟩,ha,hb,hf,k⟩:=h
  refine⟨_,(q0d (q0r (pe_dget (z3y hr) (q1d (pv 0) rfl) (q7t (q0a (pv 1) (q0a (pv 2) q0b))) (λ_ _=>rfl)))),?_⟩
  refine⟨_,rfl,x,_,_,_,_,rfl,h1,T.cl_Prices,T.n_Prices_costs,flds_costs,?_⟩
  refine⟨_,rfl,_,rfl,by show 2<=sizeLine;decide,λt ht=>?_⟩
  have hd5:upd H t (.tup [.str ⟨#[a]⟩,.str ⟨#[b]⟩]) d.1=some (.dT kvs):=by rw[upd_ne (q0x h5 ht)];exact h5
  have z:=DGet.t (k:=z1m a b) hd5 upd_same
  rw[h6.1 i j a b f ha hb hf]at z
  exact⟨d.1,_,rfl,z,k _ (Same.upd ht)⟩
theorem ok_more_cost {f_more_cost:Addr} {fd_more_cost:FuncData} {p:Pm} (T:Txt K mg p w) (D_more_cost:Dn K mg "more_cost" q3n ["prices"] f_more_cost fd_more_cost)  :FnOk P w K mg base CX0 2 f_more_cost fd_more_cost ["prices"] (spMore K p.C_Prices):=by
 refine D_more_cost.fn.ok sc_more_cost (λvs H Q E h=>?_) (λcdv A outer s H vs Q E hr h=>?_)
 ·obtain⟨x,sg,rows,fo,fm,rfl,_⟩:=h
  rfl
 ·obtain⟨x,sg,rows,fo,fm,rfl,⟨_,_,_,_,_,_,_,dx,Pp,o,m,d,kvs,h1,h2,h3,h4,h5,h6⟩,k⟩:=h
  refine⟨_,(q0d (q0r (q1d (pv 0) rfl))),?_⟩
  exact⟨_,rfl,x,_,_,_,_,rfl,h1,T.cl_Prices,T.n_Prices_more_units,z3d,k⟩
end
section
variable{P:Program}{w:World}{K:PySem.W.Frag}{mg:Str->Option Value}{base:Heap}
theorem q9p {f_Prices___init__ f_check_signs f_check_lengths_prices f_lowest_prices f_lowest_price f_all_unders f_unit_factors f_product_of f_costs_by_signs f_by_unit:Addr} {fd_Prices___init__ fd_check_signs fd_check_lengths_prices fd_lowest_prices fd_lowest_price fd_all_unders fd_unit_factors fd_product_of fd_costs_by_signs fd_by_unit:FuncData} {p:Pm} (T:Txt K mg p w) (D_Prices___init__:Dm K "__init__" "Prices.__init__" q1h ["self","signs","pairs","opening","more"] f_Prices___init__ fd_Prices___init__) (D_check_signs:Dn K mg "check_signs" q5c ["signs"] f_check_signs fd_check_signs) (G_check_signs:FnOk P w K mg base CX0 3 f_check_signs fd_check_signs ["signs"] z0x) (D_check_lengths_prices:Da K mg "check_lengths_prices" "check_lengths" q1t ["signs","pairs"] f_check_lengths_prices fd_check_lengths_prices) (G_check_lengths_prices:FnOk P w K mg base CX0 1 f_check_lengths_prices fd_check_lengths_prices ["signs","pairs"] (q8n K)) (D_lowest_prices:Dn K mg "lowest_prices" q3u ["row"] f_lowest_prices fd_lowest_prices) (G_lowest_prices:FnOk P w K mg base CX0 4 f_lowest_prices fd_lowest_prices ["row"] (z2h K)) (D_lowest_price:Dn K mg "lowest_price" q3i ["price"] f_lowest_price fd_lowest_price) (G_lowest_price:FnOk P w K mg base CX0 3 f_lowest_price fd_lowest_price ["price"] (z0f K)) (D_all_unders:Dn K mg "all_unders" q6e ["pairs","opening","more"] f_all_unders fd_all_unders) (G_all_unders:FnOk P w K mg base CX0 1 f_all_unders fd_all_unders ["pairs","opening","more"] (spUnders K)) (D_unit_factors:Dn K mg "unit_factors" q4h ["unders"] f_unit_factors fd_unit_factors) (G_unit_factors:FnOk P w K mg base CX0 2 f_unit_factors fd_unit_factors ["unders"] (spFactors K)) (D_product_of:Dn K mg "product_of" q5w ["factors"] f_product_of fd_product_of) (G_product_of:FnOk P w K mg base CX0 1 f_product_of fd_product_of ["factors"] (spProd K)) (D_costs_by_signs:Dn K mg "costs_by_signs" q3l ["signs","pairs","unit"] f_costs_by_signs fd_costs_by_signs) (G_costs_by_signs:FnOk P w K mg base CX0 2 f_costs_by_signs fd_costs_by_signs ["signs","pairs","unit"] (spCosts K)) (D_by_unit:Dn K mg "by_unit" q7r ["price","unit"] f_by_unit fd_by_unit) (G_by_unit:FnOk P w K mg base CX0 1 f_by_unit fd_by_unit ["price","unit"] (z4s K)):FnOk P w K mg base CX0 5 f_Prices___init__ fd_Prices___init__ ["self","signs","pairs","opening","more"] (spInit K p.C_Prices):=by
 refine D_Prices___init__.fn.ok q9h (λvs H Q E h=>?_) (λcdv A outer s H vs Q E hr h=>?_)
 ·obtain⟨x,dx,o,m,sg,c,rows,fo,fm,rfl,_⟩:=h
  rfl
 ·obtain⟨x,dx,o,m,sg,c,rows,fo,fm,rfl,hx,hS,h12,hM,hsq,hok,hfo,oko,hfm,okm,k⟩:=h
  have S:=hS
  obtain⟨q1,q2,q3,q4⟩:=S
  refine⟨_,(q0c (q1r (q0h G_check_signs (hr.mono (by decide)) rfl D_check_signs.m D_check_signs.fn.kp D_check_signs.b .nil q0t (q0a (pv 1) q0b)))
   (q0c (q1r (q0h G_check_lengths_prices (hr.mono (by decide)) rfl D_check_lengths_prices.m D_check_lengths_prices.fn.kp D_check_lengths_prices.b .nil q0t (q0a (pv 1) (q0a (pv 2) q0b))))
   (q0c (q4b (pv 0) (pv 1) rfl)
   (q0c (q4b (pv 0) (q7v (q7i) rfl T.z_tuple z6i (q0a (q2f (N:=["row"]) rfl (λ_=>⟨[],CompSc.plain (by decide +kernel) rfl (by decide +kernel) (by decide +kernel)⟩) (pi_cp (pv 2)) (λ_ _ _ _ _ _ _=>(q0m (i:=0) (show(["row"]:List Str).Nodup by decide +kernel) rfl (Or.inl rfl))) (λ_ _ _ _ _ _ _=>(q0h G_lowest_prices (hr.mono (by decide)) rfl D_lowest_prices.m D_lowest_prices.fn.kp D_lowest_prices.b .nil q0t (q0a (pv 0) q0b)))) q0b)) rfl)
   (q0c (q4b (pv 0) (q0h G_lowest_price (hr.mono (by decide)) rfl D_lowest_price.m D_lowest_price.fn.kp D_lowest_price.b .nil q0t (q0a (pv 3) q0b)) rfl)
   (q0c (q4b (pv 0) (q0h G_lowest_price (hr.mono (by decide)) rfl D_lowest_price.m D_lowest_price.fn.kp D_lowest_price.b .nil q0t (q0a (pv 4) q0b)) rfl)
   (q0c (q4b (pv 0) (q0h G_unit_factors (hr.mono (by decide)) rfl D_unit_factors.m D_unit_factors.fn.kp D_unit_factors.b .nil q0t (q0a (q0h G_all_unders (hr.mono (by decide)) rfl D_all_unders.m D_all_unders.fn.kp D_all_unders.b .nil q0t (q0a (q1d (pv 0) rfl) (q0a (q1d (pv 0) rfl) (q0a (q1d (pv 0) rfl) q0b)))) q0b)) rfl)
   (q0c (q4b (pv 0) (q0h G_product_of (hr.mono (by decide)) rfl D_product_of.m D_product_of.fn.kp D_product_of.b .nil q0t (q0a (q1d (pv 0) rfl) q0b)) rfl)
   (q0c (q4b (pv 0) (q0h G_costs_by_signs (hr.mono (by decide)) rfl D_costs_by_signs.m D_costs_by_signs.fn.kp D_costs_by_signs.b .nil q0t (q0a (q1d (pv 0) rfl) (q0a (q1d (pv 0) rfl) (q0a (q1d (pv 0) rfl) q0b)))) rfl)
   (q0c (q4b (pv 0) (q0h G_by_unit (hr.mono (by decide)) rfl D_by_unit.m D_by_unit.fn.kp D_by_unit.b .nil q0t (q0a (q1d (pv 0) rfl) (q0a (q1d (pv 0) rfl) q0b))) rfl)
   (q0d (q4b (pv 0) (q0h G_by_unit (hr.mono (by decide)) rfl D_by_unit.m D_by_unit.fn.kp D_by_unit.b .nil q0t (q0a (q1d (pv 0) rfl) (q0a (q1d (pv 0) rfl) q0b))) rfl)))))))))))),?_⟩
  refine⟨_,rfl,sg,rfl,hS,λH1 s1=>?_⟩
  refine⟨_,rfl,_,rfl,sg,c,rows,rfl,hM.dat (Dat.of s1),by omega,hsq,?_⟩
  have hx1:H1 x=some (.ins p.C_Prices dx []):=s1 _ _ hx
  refine⟨_,rfl,_,rfl,x,_,dx,_,rfl,hx1,T.cl_Prices,T.n_Prices_signs,by decide,?_⟩
  generalize hH2:upd H1 x (.ins p.C_Prices dx (q1b "signs" (.str sg) []))=H2
  have hx2:H2 x=some (.ins p.C_Prices dx (q1b "signs" (.str sg) [])):=by rw[←hH2];exact upd_same
  have f2:Off x H H2:=by rw[←hH2];exact(Off.of s1).trans Off.set
  obtain⟨nc,cs,ncs,hcs,hp⟩:=hM.dat (f2.dat hx)
  refine⟨_,rfl,c,_,rfl,hcs,λl hl0=>?_⟩
  refine⟨λi n ys H3=>n=rows.length-i/\i<=rows.length/\Same H2 H3/\H3 l=some (.lst ys)/\∃qs:List Addr,ys=qs.map V.ref/\qs.length=i/\Paired (λq r=>RowAt K H3 (.tup q) r) qs ((loR rows).take i),⟨rows.length,rfl,Nat.zero_le _,Same.upd hl0,upd_same,[],rfl,rfl,.nil⟩,?_⟩
  rintro i n ys H3 ⟨rfl,hi,s3,hl3,qs,rfl,hq,hP⟩
  have zc:c.at K H3 (cs.map Cp.val):=Same.cp s3 hcs
  have hcl:=Paired.len hp
  by_cases hlt:i<rows.length
  ·have hci:i<cs.length:=by omega
   have e1:(cs.map Cp.val)[i]? =some cs[i].val:=by rw[List.getElem?_map,List.getElem?_eq_getElem hci];rfl
   refine .inr ⟨⟨_,_,zc,e1⟩,?_⟩
   rintro y H4 ⟨rfl,hy⟩
   have ey:=hy _ zc
   rw[e1]at ey
   cases ey
   obtain⟨r,er,hr2⟩:=Paired.at hp (List.getElem?_eq_getElem hci)
   have hrm:=List.mem_of_getElem? er
   refine⟨Kp.rep _ _,?_⟩
   refine⟨_,rfl,cs[i],r,rfl,hr2.same s3,λf hf=>(hok r hrm f hf).1,by rw[hsq.2 r hrm];omega,λq H5 s5 hqn hR=>?_⟩
   have hl5:H5 l=some (.lst (qs.map V.ref)):=s5 _ _ hl3
   refine⟨hl5,?_,rows.length-(i+1),by omega,rfl,hlt,Same.at (s3.trans s5) hl0,upd_same,qs++[q],by rw[List.map_append];rfl,by rw[List.length_append,hq];rfl,?_⟩
   ·rw[List.length_map,hq]
    have:i<100:=by rw[hsq.1]at hlt;omega
    exact Nat.lt_of_lt_of_le this (by decide)
   ·rw[show(loR rows).take (i+1)=(loR rows).take i++[r.map loF] from q9v er]
    refine GP.Paired.snoc (Paired.mapP hP λa b z=>?_) ?_
    ·exact(z.same s5).off hl5
    ·exact hR.off hl5
  ·have ei:i=rows.length:=by omega
   subst ei
   refine .inl ⟨⟨_,zc,by rw[List.length_map];omega⟩,?_⟩
   refine⟨l,_,rfl,.inl ⟨SqL.of hl3,λPp hPn=>?_⟩⟩
   generalize hH4:upd H3 Pp (.tup (qs.map V.ref))=H4
   have s4:Same H2 H4:=by rw[←hH4];exact s3.trans (Same.upd hPn)
   have m4:TMat K H4 Pp (loR rows):=by
    rw[←hH4]
    refine⟨qs,SqT.of upd_same,?_⟩
    rw[List.take_of_length_le (by unfold loR;rw[List.length_map];exact Nat.le_refl _)]at hP
    exact Paired.mapP hP λa b z=>z.same (Same.upd hPn)
   have hx4:=s4 _ _ hx2
   refine⟨_,rfl,x,_,dx,_,rfl,hx4,T.cl_Prices,T.n_Prices_pairs,pl1,?_⟩
   generalize hH5:upd H4 x (.ins p.C_Prices dx (q1b "pairs" (.ref Pp) (q1b "signs" (.str sg) [])))=H5
   have hx5:H5 x=some (.ins p.C_Prices dx (q1b "pairs" (.ref Pp) (q1b "signs" (.str sg) []))):=by rw[←hH5];exact upd_same
   have f5:Off x H H5:=by rw[←hH5];exact(f2.trans (Off.of s4)).trans Off.set
   have d5:Dat H4 H5:=by rw[←hH5];exact Dat.set hx4
   refine⟨_,rfl,o,fo,rfl,hfo.dat (f5.dat hx),oko.1,λo' ho'=>?_⟩
   generalize hH6:upd H5 o' (.tup [.int (loF fo).1,.int (loF fo).2])=H6
   have s6:Same H5 H6:=by rw[←hH6];exact Same.upd ho'
   have ho6:FrAt K H6 o' (loF fo):=by rw[←hH6];exact SqT.of upd_same
   have hx6:=s6 _ _ hx5
   refine⟨_,rfl,x,_,dx,_,rfl,hx6,T.cl_Prices,T.n_Prices_opening,pl2,?_⟩
   generalize hH7:upd H6 x (.ins p.C_Prices dx (q1b "opening" (.ref o') (q1b "pairs" (.ref Pp) (q1b "signs" (.str sg) []))))=H7
   have hx7:H7 x=some (.ins p.C_Prices dx (q1b "opening" (.ref o') (q1b "pairs" (.ref Pp) (q1b "signs" (.str sg) [])))):=by rw[←hH7];exact upd_same
   have f7:Off x H H7:=by rw[←hH7];exact(f5.trans (Off.of s6)).trans Off.set
   have d7:Dat H6 H7:=by rw[←hH7];exact Dat.set hx6
   refine⟨_,rfl,m,fm,rfl,hfm.dat (f7.dat hx),okm.1,λm' hm'=>?_⟩
   generalize hH8:upd H7 m' (.tup [.int (loF fm).1,.int (loF fm).2])=H8
   have s8:Same H7 H8:=by rw[←hH8];exact Same.upd hm'
   have hm8:FrAt K H8 m' (loF fm):=by rw[←hH8];exact SqT.of upd_same
   have hx8:=s8 _ _ hx7
   refine⟨_,rfl,x,_,dx,_,rfl,hx8,T.cl_Prices,T.n_Prices_more,pl3,?_⟩
   generalize hH9:upd H8 x (.ins p.C_Prices dx (q1b "more" (.ref m') (q1b "opening" (.ref o') (q1b "pairs" (.ref Pp) (q1b "signs" (.str sg) [])))))=H9
   have hx9:H9 x=some (.ins p.C_Prices dx (q1b "more" (.ref m') (q1b "opening" (.ref o') (q1b "pairs" (.ref Pp) (q1b "signs" (.str sg) []))))):=by rw[←hH9];exact upd_same
   have f9:Off x H H9:=by rw[←hH9];exact(f7.trans (Off.of s8)).trans Off.set
   have d9:Dat H8 H9:=by rw[←hH9];exact Dat.set hx8
   have e69:Dat H6 H9:=d7.trans ((Dat.of s8).trans d9)
   have e49:Dat H4 H9:=d5.trans ((Dat.of s6).trans e69)
   have M9:TMat K H9 Pp (loR rows):=m4.dat e49
   have O9:FrAt K H9 o' (loF fo):=ho6.dat e69
   have m9:FrAt K H9 m' (loF fm):=hm8.dat d9
   have okl:∀r∈loR rows,∀f∈r,OkF f:=loR_all λr hr f hf=>z1a (hok r hr f hf).1
   have sq9:=loR_sqr hsq
   refine⟨_,rfl,x,_,_,_,_,rfl,hx9,T.cl_Prices,T.n_Prices_pairs,mk_pairs,_,rfl,x,_,_,_,_,rfl,hx9,T.cl_Prices,T.n_Prices_opening,mk_opening,_,rfl,x,_,_,_,_,rfl,hx9,T.cl_Prices,T.n_Prices_more,mk_more,?_⟩
   refine⟨Pp,o',m',loR rows,loF fo,loF fm,rfl,M9.mat,O9,m9,by rw[sq9.1];exact h12,λr hr=>by rw[sq9.2 r hr];exact h12,λl1 Ha sa hl1 hla=>?_⟩
   have okU:∀n∈q5u (loF fo) (loF fm) (loR rows),q8s n:=λn hn=>by
    have z:∀{f:Fra},OkF f->q8s f.2:=λq=>⟨by have:=q.1;omega,q.2⟩
    rcases List.mem_cons.mp hn with e|hn
    ·rw[e];exact z (z1a oko.1)
    rcases List.mem_cons.mp hn with e|hn
    ·rw[e];exact z (z1a okm.1)
    obtain⟨f,hf,rfl⟩:=List.mem_map.mp hn
    obtain⟨r,hr,hfr⟩:=List.mem_flatten.mp hf
    exact z (okl r hr f hfr)
   have lenU:(q5u (loF fo) (loF fm) (loR rows)).length<=1000:=by
    unfold q5u
    rw[List.length_cons,List.length_cons,List.length_map,z6d sq9.2,sq9.1]
    have:sg.cps.size*sg.cps.size<=12*12:=Nat.mul_le_mul h12 h12
    omega
   refine⟨l1,_,rfl,SqL.of hla,lenU,okU,λfl Hb sb hfl hlb=>?_⟩
   have FI:=facs_is okU
   have eU:prodI (z0r (q5u (loF fo) (loF fm) (loR rows))).1=q0s (loF fo).2 (loF fm).2 (loR rows):=by rw[FI.prod,FI.unit,unders_unit]
   have hsm:=FI.small
   generalize (z0r (q5u (loF fo) (loF fm) (loR rows))).1=fcs at hlb eU hsm
   clear FI
   have hxb:=sb _ _ (sa _ _ hx9)
   refine⟨_,rfl,x,_,dx,_,rfl,hxb,T.cl_Prices,T.n_Prices_factors,pl4,?_⟩
   generalize hHc:upd Hb x (.ins p.C_Prices dx (q1b "factors" (.ref fl) (q1b "more" (.ref m') (q1b "opening" (.ref o') (q1b "pairs" (.ref Pp) (q1b "signs" (.str sg) []))))))=Hc
   have hxc:Hc x=some (.ins p.C_Prices dx (q1b "factors" (.ref fl) (q1b "more" (.ref m') (q1b "opening" (.ref o') (q1b "pairs" (.ref Pp) (q1b "signs" (.str sg) [])))))):=by rw[←hHc];exact upd_same
   have fc:Off x H Hc:=by rw[←hHc];exact((f9.trans (Off.of sa)).trans (Off.of sb)).trans Off.set
   have dc:Dat H9 Hc:=by rw[←hHc];exact((Dat.of sa).trans (Dat.of sb)).trans (Dat.set hxb)
   have hflc:Hc fl=some (.lst (fcs.map V.int)):=by rw[←hHc];exact Dat.set hxb fl _ (λ_ _ _ z=>by cases z) hlb
   refine⟨_,rfl,x,_,_,_,_,rfl,hxc,T.cl_Prices,T.n_Prices_factors,mk_factors,fl,fcs,rfl,SqL.of hflc,hsm,?_⟩
   have up:=unit_pos (z1a oko.1) (z1a okm.1) okl
   have ub:=unit_big h12 sq9 (z1a oko.1) (z1a okm.1) okl
   have okB:∀{f:Fra},OkH f->OkB (q0s (loF fo).2 (loF fm).2 (loR rows)) (loF f):=λz=>⟨z1a z.1,loF_big z.2,Bu.div ub _⟩
   rw[eU]
   generalize hu:q0s (loF fo).2 (loF fm).2 (loR rows)=u at *
   refine⟨_,rfl,x,_,dx,_,rfl,hxc,T.cl_Prices,T.n_Prices_unit,pl5,?_⟩
   generalize hH10:upd Hc x (.ins p.C_Prices dx (q1b "unit" (.int u) (q1b "factors" (.ref fl) (q1b "more" (.ref m') (q1b "opening" (.ref o') (q1b "pairs" (.ref Pp) (q1b "signs" (.str sg) [])))))))=H10
   have hx10:H10 x=some (.ins p.C_Prices dx (q1b "unit" (.int u) (q1b "factors" (.ref fl) (q1b "more" (.ref m') (q1b "opening" (.ref o') (q1b "pairs" (.ref Pp) (q1b "signs" (.str sg) []))))))):=by rw[←hH10];exact upd_same
   have f10:Off x H H10:=by rw[←hH10];exact fc.trans Off.set
   have dc10:Dat Hc H10:=by rw[←hH10];exact Dat.set hxc
   have d10:Dat H9 H10:=dc.trans dc10
   have hfl10:H10 fl=some (.lst (fcs.map V.int)):=dc10 fl _ (λ_ _ _ z=>by cases z) hflc
   refine⟨_,rfl,x,_,_,_,_,rfl,hx10,T.cl_Prices,T.n_Prices_signs,mk_signs,_,rfl,x,_,_,_,_,rfl,hx10,T.cl_Prices,T.n_Prices_pairs,mk_pairs2,_,rfl,x,_,_,_,_,rfl,hx10,T.cl_Prices,T.n_Prices_unit,mk_unit,?_⟩
   refine⟨sg,Pp,u,loR rows,rfl,M9.dat d10,q2,q4,sq9,loR_all λr hr f hf=>okB (hok r hr f hf),λd H11 kvs s11 hdn hd11 hc=>?_⟩
   have hx11:=s11 _ _ hx10
   refine⟨_,rfl,x,_,dx,_,rfl,hx11,T.cl_Prices,T.n_Prices_costs,pl6,?_⟩
   generalize hH12:upd H11 x (.ins p.C_Prices dx (q1b "costs" (.ref d) (q1b "unit" (.int u) (q1b "factors" (.ref fl) (q1b "more" (.ref m') (q1b "opening" (.ref o') (q1b "pairs" (.ref Pp) (q1b "signs" (.str sg) []))))))))=H12
   have hx12:H12 x=some (.ins p.C_Prices dx (q6j sg Pp o' m' u (d,fl))):=by rw[←hH12];exact upd_same
   have d12:Dat H10 H12:=by rw[←hH12];exact(Dat.of s11).trans (Dat.set hx11)
   have f12:Off x H H12:=by rw[←hH12];exact(f10.trans (Off.of s11)).trans Off.set
   have hd12:H12 d=some (.dT kvs):=by rw[←hH12];exact Dat.set hx11 d _ (λ_ _ _ z=>by cases z) hd11
   obtain⟨w1,w2,w3⟩:=okB oko
   obtain⟨y1,y2,y3⟩:=okB okm
   refine⟨_,rfl,x,_,_,_,_,rfl,hx12,T.cl_Prices,T.n_Prices_opening,z6b,_,rfl,x,_,_,_,_,rfl,hx12,T.cl_Prices,T.n_Prices_unit,z4m,o',loF fo,u,rfl,(O9.dat d10).dat d12,w1,w2.bg,w3.bg,?_⟩
   refine⟨_,rfl,x,_,dx,_,rfl,hx12,T.cl_Prices,T.n_Prices_opening_units,pl7,?_⟩
   generalize hH13:upd H12 x (.ins p.C_Prices dx (q1b "opening_units" (.int ((loF fo).1*(u / (loF fo).2))) (q6j sg Pp o' m' u (d,fl))))=H13
   have hx13:H13 x=some (.ins p.C_Prices dx (q1b "opening_units" (.int ((loF fo).1*(u / (loF fo).2))) (q6j sg Pp o' m' u (d,fl)))):=by rw[←hH13];exact upd_same
   have d13:Dat H12 H13:=by rw[←hH13];exact Dat.set hx12
   have f13:Off x H H13:=by rw[←hH13];exact f12.trans Off.set
   refine⟨_,rfl,x,_,_,_,_,rfl,hx13,T.cl_Prices,T.n_Prices_more,(q9z (by decide +kernel)).trans flds6_more,_,rfl,x,_,_,_,_,rfl,hx13,T.cl_Prices,T.n_Prices_unit,(q9z (by decide +kernel)).trans z4m,m',loF fm,u,rfl,((m9.dat d10).dat d12).dat d13,y1,y2.bg,y3.bg,?_⟩
   refine⟨_,rfl,x,_,dx,_,rfl,hx13,T.cl_Prices,T.n_Prices_more_units,pl8,?_⟩
   have d14:Dat H10 (upd H13 x (.ins p.C_Prices dx (flds sg Pp o' m' u (d,fl) ((loF fo).1*(u / (loF fo).2)) ((loF fm).1*(u / (loF fm).2))))):=d12.trans (d13.trans (Dat.set hx13))
   have f14:Off x H (upd H13 x (.ins p.C_Prices dx (flds sg Pp o' m' u (d,fl) ((loF fo).1*(u / (loF fo).2)) ((loF fm).1*(u / (loF fm).2))))):=f13.trans Off.set
   refine k _ ⟨hS,sq9,?_,?_,?_,?_,?_,dx,Pp,o',m',(d,fl),kvs,?_,(M9.dat d10).dat d14,(O9.dat d10).dat d14,(m9.dat d10).dat d14,?_,?_,fcs,hsm,?_,?_⟩ f14 (λc0 hc0 C' dx' fs' hx' hl'=>?_)
   ·rw[hu];exact loR_all λr hr f hf=>okB (hok r hr f hf)
   ·rw[hu];exact okB oko
   ·rw[hu];exact okB okm
   ·rw[hu];exact up
   ·rw[hu];exact ub
   ·rw[hu];exact upd_same
   ·exact(d13.trans (Dat.set hx13)) d _ (λ_ _ _ z=>by cases z) hd12
   ·rw[hu];exact hc
   ·rw[hu];exact eU
   ·exact d14 fl _ (λ_ _ _ z=>by cases z) hfl10
   ·rw[upd_same]at hx'
    cases hx'
    have e:fl=c0:=V.ref.inj (Option.some.inj ((q7z (x:=sg) (P:=Pp) (o:=o') (m:=m') (u:=u) (d:=(d,fl))).symm.trans hl'))
    subst e
    cases q:H fl with
    |none=>exact hc0 q
    |some u0 =>
     by_cases ex:fl=x
     ·rw[ex,sa _ _ hx9]at hfl
      cases hfl
     ·rw[(f9.trans (Off.of sa)) fl u0 q ex]at hfl
      cases hfl
end
section
variable{P:Program}{w:World}{K:PySem.W.Frag}{mg:Str->Option Value}{base:Heap}
theorem ok_law_next {f_law_next:Addr} {fd_law_next:FuncData} {p:Pm} (T:Txt K mg p w) (D_law_next:Dn K mg "_law_next" q4e ["_law_script","_law_at"] f_law_next fd_law_next)  :FnOk P w K mg base CX0 1 f_law_next fd_law_next ["_law_script","_law_at"] (spNext K):=by
 refine D_law_next.fn.ok q6p (λvs H Q E h=>?_) (λcdv A outer s H vs Q E hr h=>?_)
 ·obtain⟨s,t,ns,k,rfl,_⟩:=h
  rfl
 ·obtain⟨s,t,ns,k,rfl,hC,hk2,kk⟩:=h
  have hS:=hC.scr
  have hS2:=hC.scr'
  have ht:=hC.at_
  have hk:=hC.k0
  refine⟨_,(q0c (ps_asg (q0p q1j (q0w q0o (pv 1) q0e (λ_ _=>rfl)) q0e) (pg_sub (pv 1) q0e z1r))
   (q0c (q0n (i:=2) q6p.nd rfl (Or.inl rfl) q0e)
   (q0c (q2h (q0v op_gt (q0i (q0l) rfl T.z_len q0y (q0a (pv 0) q0b)) q0e (q1e _)) (q0d (q0n (i:=2) q6p.nd rfl (Or.inl rfl) (q0w q0o (pv 0) (q0p q2l (q0w q0o (pv 1) q0e (λ_ _=>rfl)) (q0i (q0l) rfl T.z_len q0y (q0a (pv 0) q0b))) (λ_ _=>rfl)))) q1a)
   (q0c (q0n (i:=3) q6p.nd rfl (Or.inl rfl) (q0p q2l (q0p q7w (q0p q1j (q0p q1j (q0p q2l (pv 2) q0e) (q0p q7w (q0p q7w (q0w q0o (pv 1) q0e (λ_ _=>rfl)) (q0w q0o (pv 1) q0e (λ_ _=>rfl))) q0e)) q0e) q0e) q0e))
   (q0d (q0r (q0p q2l (q0p q7w (pv 3) (pv 3)) q0e))))))),?_⟩
  refine⟨_,rfl,t,_,_,_,rfl,rfl,SqL.of ht,rfl,_,_,rfl,rfl,_,rfl,t,_,_,0,rfl,rfl,ht,rfl,?_⟩
  have hq:SqL K (upd H t (.lst [.int (k+1)])) s (ns.map V.int):=hS2 _
  refine⟨_,rfl,_,_,rfl,.inl ⟨_,hq,rfl⟩,_,_,rfl,rfl,_,rfl,?_⟩
  have fin:∀c:Int,∀m1:Int,m1=(c % 2147483647+(k+1)*(k+1)*7919+11)*48271 % 2147483647->Q (.int (m1*m1 % 1999999973)) (upd H t (.lst [.int (k+1)])):=λc m1 _ =>
   kk _ (Int.emod_nonneg _ (by decide)) (Int.emod_lt_of_pos _ (by decide))
  have rest:∀c:Int,Q (.int (((c % 2147483647+(k+1)*(k+1)*7919+11)*48271 % 2147483647)*((c % 2147483647+(k+1)*(k+1)*7919+11)*48271 % 2147483647) % 1999999973)) (upd H t (.lst [.int (k+1)])):=λc=>fin c _ rfl
  have hAt:SqL K (upd H t (.lst [.int (k+1)])) t [.int (k+1)]:=SqL.of upd_same
  refine q2n (λh0=>?_) (λh0=>?_)
  ·have hn:0<ns.length:=by rw[List.length_map]at h0;omega
   have i1:=Int.emod_nonneg (k+1) (show((ns.length:Nat):Int)≠0 by omega)
   have i2:=Int.emod_lt_of_pos (k+1) (show(0:Int)<((ns.length:Nat):Int) by omega)
   obtain⟨j,hj⟩:∃j:Nat,(k+1) % ((ns.length:Nat):Int)=(j:Int):=⟨_,(Int.toNat_of_nonneg i1).symm⟩
   have hjl:j<ns.length:=by omega
   refine⟨_,rfl,_,rfl,t,_,_,_,rfl,rfl,hAt,rfl,_,rfl,_,_,rfl,.inl ⟨_,hq,rfl⟩,_,_,rfl,rfl,(by show(0:Int)<(((ns.map V.int).length:Nat):Int);rw[List.length_map];omega),?_⟩
   refine⟨s,_,_,.int ns[j],rfl,rfl,hq,?_,?_⟩
   ·rw[List.length_map,hj]
    exact q0q (by rw[List.getElem?_map,List.getElem?_eq_getElem hjl];rfl)
   ·refine⟨_,rfl,_,_,rfl,rfl,(by show(0:Int)<_;decide),?_⟩
    refine⟨_,rfl,t,_,_,_,rfl,rfl,hAt,rfl,_,rfl,t,_,_,_,rfl,rfl,hAt,rfl,_,_,rfl,rfl,.inl ⟨by omega,by omega⟩,_,_,rfl,rfl,.inr ⟨by decide,by decide⟩,_,_,rfl,rfl,_,_,rfl,rfl,_,_,rfl,rfl,.inr ⟨by decide,by decide⟩,_,_,rfl,rfl,(by show(0:Int)<_;decide),?_⟩
    have m0:=Int.emod_nonneg ((ns[j] % 2147483647+(k+1)*(k+1)*7919+11)*48271) (show(2147483647:Int)≠0 by decide)
    have m1:=Int.emod_lt_of_pos ((ns[j] % 2147483647+(k+1)*(k+1)*7919+11)*48271) (show(0:Int)<2147483647 by decide)
    exact⟨_,rfl,_,rfl,_,_,rfl,rfl,.inl ⟨by omega,by omega⟩,_,_,rfl,rfl,(by show(0:Int)<_;decide),rest _⟩
  ·refine⟨_,rfl,_,_,rfl,rfl,(by show(0:Int)<_;decide),?_⟩
   refine⟨_,rfl,t,_,_,_,rfl,rfl,hAt,rfl,_,rfl,t,_,_,_,rfl,rfl,hAt,rfl,_,_,rfl,rfl,.inl ⟨by omega,by omega⟩,_,_,rfl,rfl,.inr ⟨by decide,by decide⟩,_,_,rfl,rfl,_,_,rfl,rfl,_,_,rfl,rfl,.inr ⟨by decide,by decide⟩,_,_,rfl,rfl,(by show(0:Int)<_;decide),?_⟩
   have m0:=Int.emod_nonneg (((0:Int) % 2147483647+(k+1)*(k+1)*7919+11)*48271) (show(2147483647:Int)≠0 by decide)
   have m1:=Int.emod_lt_of_pos (((0:Int) % 2147483647+(k+1)*(k+1)*7919+11)*48271) (show(0:Int)<2147483647 by decide)
   exact⟨_,rfl,_,rfl,_,_,rfl,rfl,.inl ⟨by omega,by omega⟩,_,_,rfl,rfl,(by show(0:Int)<_;decide),rest _⟩
end
section
variable{P:Program}{w:World}{K:PySem.W.Frag}{mg:Str->Option Value}{base:Heap}
end
def PairsOk(K:PySem.W.Frag)(H:Hp)(t l:Addr)(n:Nat)(k:Int)(H2:Hp):Prop:=∃rs rows,LMat K (Wo t H2) l rs rows/\Sqr n rows/\(∀r∈rows,∀f∈r,OkL f)/\(∀r∈rs,H r=none)/\Same (Wo t H) (Wo t H2)/\H2 t=some (.lst [.int k])
section
variable{P:Program}{w:World}{K:PySem.W.Frag}{mg:Str->Option Value}{base:Heap}
end
section
variable{P:Program}{w:World}{K:PySem.W.Frag}{mg:Str->Option Value}{base:Heap}
end
section
variable{P:Program}{w:World}{K:PySem.W.Frag}{mg:Str->Option Value}{base:Heap}
theorem ok_things_at {f_things_at:Addr} {fd_things_at:FuncData} {p:Pm} (T:Txt K mg p w) (D_things_at:Dn K mg "things_at" q6u ["texts","place"] f_things_at fd_things_at)  :FnOk P w K mg base CX0 1 f_things_at fd_things_at ["texts","place"] (z4d K):=by
 refine D_things_at.fn.ok sc_things_at (λvs H Q E h=>?_) (λcdv A outer s H vs Q E hr h=>?_)
 ·obtain⟨v,rs,n,rfl,_⟩:=h
  rfl
 ·obtain⟨v,rs,n,rfl,hR,hS,hn,k⟩:=h
  obtain⟨c,rfl,hc⟩:=hR.cp
  have hz:rs.length<sizeLine:=Nat.lt_of_le_of_lt hS.len (by decide)
  refine⟨_,(q0d (q0r (z0i PySem.F.plainAttrs_str PySem.F.slot_str_join PySem.F.type_str_join mt_join q2t (q0a (q2f (N:=["text","place"]) rfl (CompSc.freeB (nt:=1) (ix:=[1]) rfl (by decide +kernel) (by decide +kernel) (by kernel_rfl) rfl (by kernel_rfl)) (pi_cp (pv 0)) (λ_ _ _ _ _ _ _=>(q0m (i:=0) (show(["text","place"]:List Str).Nodup by decide +kernel) rfl (Or.inl rfl))) (λ_ _ _ _ _ _ _=>(q0w q8r (pv 0) (pv 1) (λ_ _=>rfl)))) q0b)))),?_⟩
  refine⟨rfl,_,rfl,c,_,rfl,hc _ (Same.refl _),λl hl=>?_⟩
  refine q4q rs.length (λi=>sg ((rs.getD i ⟨#[]⟩).cps.toList.getD n 0)) hl hz (λi H2 s2 hi=>?_) (λH2 s2=>?_) (λi x H2 H3 R s2 hi y hR=>?_) λH2 s2 hl2=>?_
  ·exact⟨_,_,hc _ s2,by rw[List.getElem?_map,List.getElem?_eq_getElem hi];rfl⟩
  ·exact⟨_,hc _ s2,by rw[List.length_map];exact Nat.le_refl _⟩
  ·obtain⟨rfl,y⟩:=y
   have e:=y _ (hc _ s2)
   rw[List.getElem?_map,List.getElem?_eq_getElem hi]at e
   cases e
   have hm:=List.getElem_mem hi
   have hn':n<rs[i].cps.toList.length:=by rw[Array.length_toList];exact hn _ hm
   refine⟨Kp.set0,?_⟩
   refine⟨_,rfl,_,rfl,_,_,rs[i].cps.toList[n],rfl,rfl,Nat.le_trans (hS.row _ hm) (by decide),q0q (List.getElem?_eq_getElem hn'),?_⟩
   have e2:rs[i].cps.toList[n]=(rs.getD i ⟨#[]⟩).cps.toList.getD n 0:=by
    have e3:rs.getD i ⟨#[]⟩=rs[i]:=by rw[List.getD_eq_getElem?_getD,List.getElem?_eq_getElem hi,Option.getD_some]
    rw[e3,List.getD_eq_getElem?_getD,List.getElem?_eq_getElem hn',Option.getD_some]
   rw[e2]
   exact hR _ (Same.refl _)
  ·refine⟨l,q6k rs n,rfl,rfl,?_,?_,k H2 s2⟩
   ·have e:(List.range rs.length).map (λi=>sg ((rs.getD i ⟨#[]⟩).cps.toList.getD n 0))=(q6k rs n).map sg:=by
     unfold q6k
     rw[List.map_map]
     refine List.ext_getElem (by simp) λi h1 h2=>?_
     have hi:i<rs.length:=by simpa using h1
     simp[List.getD_eq_getElem?_getD,List.getElem?_eq_getElem hi]
    rw[e]at hl2
    exact SqL.of hl2
   ·unfold q6k
    rw[List.length_map]
    exact Nat.le_trans hS.len (by decide)
theorem ok_turned {f_turned f_things_at:Addr} {fd_turned fd_things_at:FuncData} {p:Pm} (T:Txt K mg p w) (D_turned:Dn K mg "turned" q9j ["texts","many"] f_turned fd_turned) (D_things_at:Dn K mg "things_at" q6u ["texts","place"] f_things_at fd_things_at) (G_things_at:FnOk P w K mg base CX0 1 f_things_at fd_things_at ["texts","place"] (z4d K)):FnOk P w K mg base CX0 2 f_turned fd_turned ["texts","many"] (z4r K):=by
 refine D_turned.fn.ok sc_turned (λvs H Q E h=>?_) (λcdv A outer s H vs Q E hr h=>?_)
 ·obtain⟨v,rs,n,rfl,_⟩:=h
  rfl
 ·obtain⟨v,rs,n,rfl,hR,hS,hn,hw,k⟩:=h
  refine⟨_,(q0d (q0r (q2f (N:=["place","texts"]) rfl (CompSc.freeB (nt:=1) (ix:=[0]) rfl (by decide +kernel) (by decide +kernel) (by kernel_rfl) rfl (by kernel_rfl)) (q1s rfl T.z_range (q0a (pv 1) q0b)) (λ_ _ _ _ _ _ _=>(q0m (i:=0) (show(["place","texts"]:List Str).Nodup by decide +kernel) rfl (Or.inl rfl))) (λ_ _ _ _ _ _ _=>(q0h G_things_at (hr.mono (by decide)) rfl D_things_at.m D_things_at.fn.kp D_things_at.b .nil q0t (q0a (pv 1) (q0a (pv 0) q0b))))))),?_⟩
  refine⟨_,rfl,n,rfl,by omega,by omega,λl hl=>?_⟩
  refine q4q n (λi=>V.str (colS rs i)) hl (Nat.lt_of_le_of_lt hn (by decide)) (λi H2 s2 hi=>?_) (λH2 s2=>?_) (λi x H2 H3 R s2 hi y hR'=>?_) λH2 s2 hl2=>?_
  ·show i<((n:Nat):Int).toNat
   omega
  ·show((n:Nat):Int).toNat<=n
   omega
  ·obtain⟨rfl,rfl⟩:=y
   refine⟨Kp.set0,?_⟩
   refine⟨_,rfl,_,rfl,v,rs,i,?_,hR.same s2,hS,λr hr=>Nat.lt_of_lt_of_le hi (hw r hr),λH5 s5=>hR' H5 s5⟩
   rw[Int.zero_add];rfl
  ·refine k l H2 s2 hl ?_
   rw[hl2]
   unfold cols
   rw[List.map_map]
   rfl
theorem z5q {f_columns_of f_turned:Addr} {fd_columns_of fd_turned:FuncData} {p:Pm} (T:Txt K mg p w) (D_columns_of:Dn K mg "columns_of" q3p ["rows"] f_columns_of fd_columns_of) (D_turned:Dn K mg "turned" q9j ["texts","many"] f_turned fd_turned) (G_turned:FnOk P w K mg base CX0 2 f_turned fd_turned ["texts","many"] (z4r K)):FnOk P w K mg base CX0 3 f_columns_of fd_columns_of ["rows"] (q9e K):=by
 refine D_columns_of.fn.ok z4y (λvs H Q E h=>?_) (λcdv A outer s H vs Q E hr h=>?_)
 ·obtain⟨v,rs,rfl,_⟩:=h
  rfl
 ·obtain⟨v,rs,rfl,hR,hS,hl,k⟩:=h
  obtain⟨hne,hw⟩:=q2j.mp hl
  refine⟨_,(q0d (q0r (q0h G_turned (hr.mono (by decide)) rfl D_turned.m D_turned.fn.kp D_turned.b .nil q0t (q0a (pv 0) (q0a (q0i (q0l) rfl T.z_len q0y (q0a (q0w ix_seq (pv 0) q0e (λ_ _=>rfl)) q0b)) q0b))))),?_⟩
  cases rs with
  |nil=>exact absurd rfl hne
  |cons r0 rs =>
   have h0:=hS.row r0 (List.mem_cons_self ..)
   refine⟨_,rfl,_,rfl,hR.ix (i:=0) rfl ?_⟩
   refine⟨_,_,rfl,⟨Nat.le_trans h0 (by decide),rfl⟩,v,_,r0.cps.size,rfl,hR,hS,h0,λr hr=>by rw[hw r hr];exact Nat.le_refl _,λl H' s' hn hl'=>k l H' s' hn hl'⟩
theorem ok_is_gaps {f_is_gaps:Addr} {fd_is_gaps:FuncData} {p:Pm} (T:Txt K mg p w) (D_is_gaps:Dn K mg "is_gaps" q9l ["column"] f_is_gaps fd_is_gaps)  :FnOk P w K mg base CX0 1 f_is_gaps fd_is_gaps ["column"] spIsGaps:=by
 refine D_is_gaps.fn.ok sc_is_gaps (λvs H Q E h=>?_) (λcdv A outer s H vs Q E hr h=>?_)
 ·obtain⟨x,rfl,_⟩:=h
  rfl
 ·obtain⟨x,rfl,hx,k⟩:=h
  refine⟨_,(q0d (q0r (z5e q7c (pv 0) (q0p op_repS (q3y (v:=.str (Str.ofString "-")) rfl T.g_GAP ⟨_,rfl⟩) (q0i (q0l) rfl T.z_len q0y (q0a (pv 0) q0b))) (q1e _)))),?_⟩
  refine⟨_,rfl,_,rfl,_,_,rfl,⟨Nat.le_trans hx (by decide),rfl⟩,_,_,rfl,rfl,by show(-1000000:Int)<=((x.cps.size:Nat):Int);omega,by show((x.cps.size:Nat):Int)<=1000000;omega,by decide,?_,rfl,?_⟩
  ·show((x.cps.size:Nat):Int).toNat*1<=sizeLine
   exact Nat.le_trans (show _<=1000 by omega) (by decide)
  ·rw[gaps_eq]
   exact k
theorem ok_signs_of {f_signs_of:Addr} {fd_signs_of:FuncData} {p:Pm} (T:Txt K mg p w) (D_signs_of:Dn K mg "signs_of" q5i ["things"] f_signs_of fd_signs_of)  :FnOk P w K mg base CX0 1 f_signs_of fd_signs_of ["things"] q9d:=by
 refine D_signs_of.fn.ok sc_signs_of (λvs H Q E h=>?_) (λcdv A outer s H vs Q E hr h=>?_)
 ·obtain⟨x,rfl,_⟩:=h
  rfl
 ·obtain⟨x,rfl,hx,k⟩:=h
  refine⟨_,(q0d (q0r (pe_strike (pv 0) rfl T.g_GAP))),?_⟩
  exact⟨_,rfl,x,rfl,by omega,k⟩
theorem z5r {f_are_things f_signs_of f_are_signs:Addr} {fd_are_things fd_signs_of fd_are_signs:FuncData} {p:Pm} (T:Txt K mg p w) (D_are_things:Dn K mg "are_things" q6d ["row"] f_are_things fd_are_things) (D_signs_of:Dn K mg "signs_of" q5i ["things"] f_signs_of fd_signs_of) (G_signs_of:FnOk P w K mg base CX0 1 f_signs_of fd_signs_of ["things"] q9d) (D_are_signs:Dn K mg "are_signs" q5o ["text"] f_are_signs fd_are_signs) (G_are_signs:FnOk P w K mg base CX0 2 f_are_signs fd_are_signs ["text"] z0g):FnOk P w K mg base CX0 3 f_are_things fd_are_things ["row"] z2j:=by
 refine D_are_things.fn.ok z4z (λvs H Q E h=>?_) (λcdv A outer s H vs Q E hr h=>?_)
 ·obtain⟨x,rfl,_⟩:=h
  rfl
 ·obtain⟨x,rfl,hx,k⟩:=h
  refine⟨_,(q0d (q0r (q0h G_are_signs (hr.mono (by decide)) rfl D_are_signs.m D_are_signs.fn.kp D_are_signs.b .nil q0t (q0a (q0h G_signs_of (hr.mono (by decide)) rfl D_signs_of.m D_signs_of.fn.kp D_signs_of.b .nil q0t (q0a (pv 0) q0b)) q0b)))),?_⟩
  refine⟨_,rfl,x,rfl,hx,_,rfl,?_,k⟩
  show(x.cps.toList.filter (· != 45)).length<=1000
  exact Nat.le_trans (List.length_filter_le _ _) (by rw[Array.length_toList];exact hx)
end
section
variable{P:Program}{w:World}{K:PySem.W.Frag}{mg:Str->Option Value}{base:Heap}
theorem q7e {f_check_lengths_blocks:Addr} {fd_check_lengths_blocks:FuncData} {p:Pm} (T:Txt K mg p w) (D_check_lengths_blocks:Da K mg "check_lengths_blocks" "check_lengths" q1u ["rows"] f_check_lengths_blocks fd_check_lengths_blocks)  :FnOk P w K mg base (CXs P w) 1 f_check_lengths_blocks fd_check_lengths_blocks ["rows"] (spChk K p.C_NoBlock (λ_=>true) lenB):=by
 refine D_check_lengths_blocks.fn.okX q3t (λvs H Q E h=>?_) (λcdv A outer s H vs Q E hr h=>?_)
 ·obtain⟨v,rs,rfl,_⟩:=h
  rfl
 ·obtain⟨v,rs,rfl,hR,hS,_,k,kX⟩:=h
  obtain⟨c,rfl,hc⟩:=hR.cp
  refine⟨_,(q0c (q2h (q0v q7c (q0i (q0l) rfl T.z_len q0y (q0a (pv 0) q0b)) q0e (q1e _)) (q0d (z1v q5q T.xc_NoBlock rfl rfl T.mg_NoBlock (q0a q2t q0b))) q1a)
   (q0d (q1n q3q rfl (pi_cp (pv 0)) (q0m (i:=1) q3t.nd rfl (Or.inl rfl)) (q0d (q2h (q0v z5g (q0i (q0l) rfl T.z_len q0y (q0a (pv 1) q0b)) (q0i (q0l) rfl T.z_len q0y (q0a (q0w ix_seq (pv 0) q0e (λ_ _=>rfl)) q0b)) (q1e _)) (q0d (z1v q5q T.xc_NoBlock rfl rfl T.mg_NoBlock (q0a q2t q0b))) q1a))))),?_⟩
  refine⟨_,rfl,_,_,rfl,hR.len,rfl,_,rfl,?_⟩
  cases rs with
  |nil=>exact z3x ⟨by show 1<=sizeLine;decide,kX rfl H (Same.refl _)⟩
  |cons r0 rs =>
   refine z1x ?_
   have h0:=hS.row r0 (List.mem_cons_self ..)
   refine⟨_,rfl,c,_,rfl,hc _ (Same.refl _),for_cp (K:=K) (xs:=(r0::rs).map V.str) (λi σ H2=>H2=H/\∃v1,σ=[some c.val,v1]/\∀r∈(r0::rs).take i,r.cps.size=r0.cps.size) ⟨rfl,_,rfl,λr hr=>(by cases hr)⟩ (λi σ H2 _ ⟨e,_⟩=>by rw[e];exact hc _ (Same.refl _)) ?_ ?_⟩
   ·rintro i x σ H2 hx ⟨rfl,v1,rfl,hw⟩
    rw[List.getElem?_map]at hx
    obtain⟨r,hr,rfl⟩:=Option.map_eq_some_iff.mp hx
    have hm:=List.mem_of_getElem? hr
    have h1:=hS.row r hm
    refine⟨_,rfl,_,_,rfl,⟨Nat.le_trans h1 (by decide),rfl⟩,_,rfl,hR.ix (i:=0) rfl ⟨_,_,rfl,⟨Nat.le_trans h0 (by decide),rfl⟩,rfl,_,rfl,?_⟩⟩
    by_cases z:r.cps.size=r0.cps.size
    ·rw[decide_eq_true (show V.int ((r.length:Nat):Int)=V.int ((r0.length:Nat):Int) by show V.int ((r.cps.size:Nat):Int)=_;rw[z];rfl)]
     refine z1x ⟨rfl,_,rfl,λr' hr'=>?_⟩
     rw[List.take_succ,hr]at hr'
     rcases List.mem_append.mp hr' with hr'|hr'
     ·exact hw r' hr'
     ·rw[List.mem_singleton.mp hr'];exact z
    ·rw[decide_eq_false (λe=>z (by injection e with e;have e':((r.cps.size:Nat):Int)=((r0.cps.size:Nat):Int):=e;omega))]
     refine z3x ⟨by show 1<=sizeLine;decide,kX ?_ _ (Same.refl _)⟩
     rw[Bool.eq_false_iff]
     exact λe=>z ((q2j.mp e).2 r hm)
   ·rintro σ H2 ⟨rfl,v1,rfl,hw⟩
    rw[List.length_map,List.take_length]at hw
    exact k (q2j.mpr ⟨by simp,hw⟩) _ (Same.refl _)
theorem z2w {f_check_things f_are_things:Addr} {fd_check_things fd_are_things:FuncData} {p:Pm} (T:Txt K mg p w) (D_check_things:Dn K mg "check_things" q4l ["rows"] f_check_things fd_check_things) (D_are_things:Dn K mg "are_things" q6d ["row"] f_are_things fd_are_things) (G_are_things:FnOk P w K mg base CX0 3 f_are_things fd_are_things ["row"] z2j):FnOk P w K mg base (CXs P w) 4 f_check_things fd_check_things ["rows"] (spChk K p.C_NoBlock (λ_=>true) (λrs=>rs.all q4r)):=by
 refine D_check_things.fn.okX q7q (λvs H Q E h=>?_) (λcdv A outer s H vs Q E hr h=>?_)
 ·obtain⟨v,rs,rfl,_⟩:=h
  rfl
 ·obtain⟨v,rs,rfl,hR,hS,_,k,kX⟩:=h
  obtain⟨c,rfl,hc⟩:=hR.cp
  refine⟨_,(q0d (q1n q3q rfl (pi_cp (pv 0)) (q0m (i:=1) q7q.nd rfl (Or.inl rfl)) (q0d (q2h (z0y (q8q (q0h G_are_things (hr.mono (by decide)) rfl D_are_things.m D_are_things.fn.kp D_are_things.b .nil q0t (q0a (pv 1) q0b)))) (q0d (z1v q5q T.xc_NoBlock rfl rfl T.mg_NoBlock (q0a q2t q0b))) q1a)))),?_⟩
  refine⟨_,rfl,c,_,rfl,hc _ (Same.refl _),for_cp (K:=K) (xs:=rs.map V.str) (λi σ H2=>Same H H2/\∃v1,σ=[some c.val,v1]/\∀r∈rs.take i,q4r r=true) ⟨Same.refl _,_,rfl,λr hr=>(by cases hr)⟩ (λi σ H2 _ ⟨e,_⟩=>hc _ e) ?_ ?_⟩
  ·rintro i x σ H2 hx ⟨s2,v1,rfl,hw⟩
   rw[List.getElem?_map]at hx
   obtain⟨r,hr,rfl⟩:=Option.map_eq_some_iff.mp hx
   have hm:=List.mem_of_getElem? hr
   refine⟨_,rfl,r,rfl,hS.row r hm,λH3 s3=>⟨_,rfl,?_⟩⟩
   cases z:q4r r with
   |true =>
    refine z3a ⟨s2.trans s3,_,rfl,λr' hr'=>?_⟩
    rw[List.take_succ,hr]at hr'
    rcases List.mem_append.mp hr' with hr'|hr'
    ·exact hw r' hr'
    ·rw[List.mem_singleton.mp hr'];exact z
   |false =>
    refine iteNF ⟨by show 1<=sizeLine;decide,kX ?_ _ (s2.trans s3)⟩
    rw[Bool.eq_false_iff]
    exact λe=>by rw[List.all_eq_true]at e;rw[e r hm]at z;cases z
  ·rintro σ H2 ⟨s2,v1,rfl,hw⟩
   rw[List.length_map,List.take_length]at hw
   exact k (List.all_eq_true.mpr hw) _ s2
theorem z1k {f_check_columns f_columns_of f_is_gaps:Addr} {fd_check_columns fd_columns_of fd_is_gaps:FuncData} {p:Pm} (T:Txt K mg p w) (D_check_columns:Dn K mg "check_columns" q3x ["rows"] f_check_columns fd_check_columns) (D_columns_of:Dn K mg "columns_of" q3p ["rows"] f_columns_of fd_columns_of) (G_columns_of:FnOk P w K mg base CX0 3 f_columns_of fd_columns_of ["rows"] (q9e K)) (D_is_gaps:Dn K mg "is_gaps" q9l ["column"] f_is_gaps fd_is_gaps) (G_is_gaps:FnOk P w K mg base CX0 1 f_is_gaps fd_is_gaps ["column"] spIsGaps):FnOk P w K mg base (CXs P w) 4 f_check_columns fd_check_columns ["rows"] (spChk K p.C_NoBlock lenB colsB):=by
 refine D_check_columns.fn.okX q7l (λvs H Q E h=>?_) (λcdv A outer s H vs Q E hr h=>?_)
 ·obtain⟨v,rs,rfl,_⟩:=h
  rfl
 ·obtain⟨v,rs,rfl,hR,hS,hl,k,kX⟩:=h
  refine⟨_,(q0d (q1n q3q rfl (q2s (q0h G_columns_of (hr.mono (by decide)) rfl D_columns_of.m D_columns_of.fn.kp D_columns_of.b .nil q0t (q0a (pv 0) q0b))) (q0m (i:=1) q7l.nd rfl (Or.inl rfl)) (q0d (q2h (q8q (q0h G_is_gaps (hr.mono (by decide)) rfl D_is_gaps.m D_is_gaps.fn.kp D_is_gaps.b .nil q0t (q0a (pv 1) q0b))) (q0d (z1v q5q T.xc_NoBlock rfl rfl T.mg_NoBlock (q0a q2t q0b))) q1a)))),?_⟩
  refine⟨_,rfl,v,rs,rfl,hR,hS,hl,λl H1 s1 hn hl1=>?_⟩
  refine⟨l,rfl,⟨_,SqL.of hl1⟩,q5g (K:=K) (xs:=(cols rs (wid rs)).map V.str) (λi σ H2=>Same H1 H2/\∃v1,σ=[some v,v1]/\∀r∈(cols rs (wid rs)).take i,(!q7g r)=true) ⟨Same.refl _,_,rfl,λr hr=>(by cases hr)⟩ (λi σ H2 _ ⟨e,_⟩=>SqL.of (e _ _ hl1)) ?_ ?_⟩
  ·rintro i x σ H2 hx ⟨s2,v1,rfl,hw⟩
   rw[List.getElem?_map]at hx
   obtain⟨r,hr,rfl⟩:=Option.map_eq_some_iff.mp hx
   have hm:=List.mem_of_getElem? hr
   have hr1:r.cps.size<=1000:=by
    unfold cols at hm
    obtain⟨j,_,rfl⟩:=List.mem_map.mp hm
    show(q6k rs j).length<=1000
    unfold q6k
    rw[List.length_map]
    exact Nat.le_trans hS.len (by decide)
   refine⟨_,rfl,r,rfl,hr1,_,rfl,?_⟩
   cases z:q7g r with
   |true =>
    refine z3x ⟨by show 1<=sizeLine;decide,kX ?_ _ (s1.trans s2)⟩
    rw[Bool.eq_false_iff]
    exact λe=>by
     unfold colsB at e
     rw[List.all_eq_true]at e
     have:=e r hm
     rw[z]at this
     cases this
   |false =>
    refine z1x ⟨s2,_,rfl,λr' hr'=>?_⟩
    rw[List.take_succ,hr]at hr'
    rcases List.mem_append.mp hr' with hr'|hr'
    ·exact hw r' hr'
    ·rw[List.mem_singleton.mp hr',z];rfl
  ·rintro σ H2 ⟨s2,v1,rfl,hw⟩
   rw[List.length_map,List.take_length]at hw
   exact k (List.all_eq_true.mpr hw) _ (s1.trans s2)
end
section
variable{P:Program}{w:World}{K:PySem.W.Frag}{mg:Str->Option Value}{base:Heap}
end
section
variable{P:Program}{w:World}{K:PySem.W.Frag}{mg:Str->Option Value}{base:Heap}
end
section
variable{P:Program}{w:World}{K:PySem.W.Frag}{mg:Str->Option Value}{base:Heap}
theorem z2r {f_place_behind:Addr} {fd_place_behind:FuncData} {p:Pm} (T:Txt K mg p w) (D_place_behind:Dn K mg "place_behind" q3h ["place","move"] f_place_behind fd_place_behind)  :FnOk P w K mg base CX0 1 f_place_behind fd_place_behind ["place","move"] (z4t K):=by
 refine D_place_behind.fn.ok q7p (λvs H Q E h=>?_) (λcdv A outer s H vs Q E hr h=>?_)
 ·obtain⟨q,c,ij,rfl,_⟩:=h
  rfl
 ·obtain⟨q,c,ij,rfl,hq,hc,k⟩:=h
  refine⟨_,(q0c (q2h (q0v op_notIn_kd (pv 1) (q3y (v:=.ref p.a_STEPS) rfl T.g_STEPS rfl) (by with_unfolding_all rfl)) q5p q1a)
   (q0c (q0n (i:=2) q7p.nd rfl (Or.inl rfl) (pe_kget (q3y (v:=.ref p.a_STEPS) rfl T.g_STEPS rfl) (pv 1) (λ_ _=>rfl)))
   (q0d (q0r (q7t (q0a (q0p q1j (q0w q3j (pv 0) q0e (λ_ _=>rfl)) (q0w q3j (pv 2) q0e (λ_ _=>rfl))) (q0a (q0p q1j (q0w q3j (pv 0) q0e (λ_ _=>rfl)) (q0w q3j (pv 2) q0e (λ_ _=>rfl))) q0b))))))),?_⟩
  obtain⟨v,f,hv,hf,e⟩:∃(v:Addr) (f:Fra),q7n [(Sum.inr (Str.ofString "p"),V.ref p.v_STEPS0),(Sum.inr (Str.ofString "a"),V.ref p.v_STEPS1),(Sum.inr (Str.ofString "b"),V.ref p.v_STEPS2)] (Sum.inr ⟨#[c]⟩:Key)=some (.ref v)/\(∀H:Hp,SqT K H v [.int f.1,.int f.2])/\stp ij c=(ij.1+f.1,ij.2+f.2):=by
   rcases hc with rfl|rfl|rfl
   ·exact⟨p.v_STEPS0,(1,1),q1y (show(Sum.inr (Str.ofString "p"):Key)=Sum.inr ⟨#[112]⟩ by decide +kernel),T.q_STEPS0,rfl⟩
   ·exact⟨p.v_STEPS1,(1,0),(q1z (show ¬(Sum.inr (Str.ofString "p"):Key)=Sum.inr ⟨#[97]⟩ by decide +kernel)).trans (q1y (show(Sum.inr (Str.ofString "a"):Key)=Sum.inr ⟨#[97]⟩ by decide +kernel)),T.q_STEPS1,rfl⟩
   ·exact⟨p.v_STEPS2,(0,1),(q1z (show ¬(Sum.inr (Str.ofString "p"):Key)=Sum.inr ⟨#[98]⟩ by decide +kernel)).trans ((q1z (show ¬(Sum.inr (Str.ofString "a"):Key)=Sum.inr ⟨#[98]⟩ by decide +kernel)).trans (q1y (show(Sum.inr (Str.ofString "b"):Key)=Sum.inr ⟨#[98]⟩ by decide +kernel))),T.q_STEPS2,rfl⟩
  refine⟨_,rfl,p.a_STEPS,_,.inr ⟨#[c]⟩,rfl,rfl,T.kd_STEPS P,_,rfl,?_⟩
  rw[hv]
  refine z3a ?_
  refine⟨_,rfl,p.a_STEPS,_,.inr ⟨#[c]⟩,_,rfl,rfl,T.kd_STEPS P,hv,?_⟩
  refine⟨_,rfl,_,_,_,_,rfl,rfl,hq,rfl,_,rfl,_,_,_,_,rfl,rfl,hf _,rfl,_,_,rfl,rfl,_,rfl,_,_,_,_,rfl,rfl,hq,rfl,_,rfl,_,_,_,_,rfl,rfl,hf _,rfl,_,_,rfl,rfl,by show 2<=sizeLine;decide,λr hr=>?_⟩
  have z:=k r hr
  rw[e]at z
  exact z
end
section
variable{P:Program}{w:World}{K:PySem.W.Frag}{mg:Str->Option Value}{base:Heap}
theorem q9q {f_NoSign___init__:Addr} {fd_NoSign___init__:FuncData} {p:Pm} (T:Txt K mg p w) (D_NoSign___init__:Dm K "__init__" "NoSign.__init__" q1i ["self","row","place"] f_NoSign___init__ fd_NoSign___init__)  :FnOk P w K mg base (CXs P w) 1 f_NoSign___init__ fd_NoSign___init__ ["self","row","place"] (spNoSign p.C_NoSign):=by
 refine D_NoSign___init__.fn.okX q9i (λvs H Q E h=>?_) (λcdv A outer s H vs Q E hr h=>?_)
 ·obtain⟨e,i,j,rfl,_⟩:=h
  rfl
 ·obtain⟨e,i,j,rfl,he,hi,hj,k⟩:=h
  obtain⟨fI,xc⟩:=T.xk_NoSign
  refine⟨_,(q0c (q1r (pe_base T.xw_WeaveError rfl T.mg_WeaveError (q0a (pv 0) (q0a (pe_join (z5c q2t (z5c (pe_fmt (pv 1)) (z5c q2t (z5c (pe_fmt (pv 2)) pj_nil))))) q0b))))
   (q0c (ps_fldX (pv 0) (pv 1) rfl)
   (q0d (ps_fldX (pv 0) (pv 2) rfl)))),?_⟩
  have li:=log_small hi
  have lj:=log_small hj
  have ti:=PyProof.Rows.int_text_len_1921 li
  have tj:=PyProof.Rows.int_text_len_1921 lj
  have l0:(Str.empty++Str.ofString "no sign that may stand there: row ").length<=50:=by decide
  have l1:=fit_app l0 ti
  have l2:=fit_app l1 (show(Str.ofString ", place ").length<=20 by decide)
  have l3:=fit_app l2 tj
  refine⟨_,rfl,_,rfl,Nat.le_trans l0 (by decide),_,rfl,_,rfl,li,_,rfl,Nat.le_trans l1 (by decide),_,rfl,Nat.le_trans l2 (by decide),_,rfl,_,rfl,lj,_,rfl,Nat.le_trans l3 (by decide),Nat.le_trans l3 (by decide),?_⟩
  refine⟨e,p.C_NoSign,fI,none,_,rfl,he,xc,?_⟩
  refine⟨_,rfl,_,rfl,e,p.C_NoSign,rfl,T.xs_NoSign,T.n_NoSign_row,.inl ⟨he,λdx hdx=>?_⟩⟩
  have ne:dx≠e:=λz=>by rw[z,he]at hdx;cases hdx
  refine⟨_,rfl,_,rfl,e,p.C_NoSign,rfl,T.xs_NoSign,T.n_NoSign_place,.inr ⟨dx,_,by rw[upd_ne (Ne.symm ne),upd_same],upd_same,pl1,?_⟩⟩
  refine k dx _ (λb u hb hbe=>?_) hdx (by rw[upd_ne (Ne.symm ne),upd_ne (Ne.symm ne),upd_same]) upd_same
  have nb:b≠dx:=λz=>by rw[z,hdx]at hb;cases hb
  rw[upd_ne nb,upd_ne nb,upd_ne hbe,upd_ne nb]
  exact hb
theorem z0m {f_Block___init__ f_check_lengths_blocks f_check_things f_check_columns:Addr} {fd_Block___init__ fd_check_lengths_blocks fd_check_things fd_check_columns:FuncData} {p:Pm} (T:Txt K mg p w) (D_Block___init__:Dm K "__init__" "Block.__init__" q1g ["self","rows"] f_Block___init__ fd_Block___init__) (D_check_lengths_blocks:Da K mg "check_lengths_blocks" "check_lengths" q1u ["rows"] f_check_lengths_blocks fd_check_lengths_blocks) (G_check_lengths_blocks:FnOk P w K mg base (CXs P w) 1 f_check_lengths_blocks fd_check_lengths_blocks ["rows"] (spChk K p.C_NoBlock (λ_=>true) lenB)) (D_check_things:Dn K mg "check_things" q4l ["rows"] f_check_things fd_check_things) (G_check_things:FnOk P w K mg base (CXs P w) 4 f_check_things fd_check_things ["rows"] (spChk K p.C_NoBlock (λ_=>true) (λrs=>rs.all q4r))) (D_check_columns:Dn K mg "check_columns" q3x ["rows"] f_check_columns fd_check_columns) (G_check_columns:FnOk P w K mg base (CXs P w) 4 f_check_columns fd_check_columns ["rows"] (spChk K p.C_NoBlock lenB colsB)):FnOk P w K mg base (CXs P w) 5 f_Block___init__ fd_Block___init__ ["self","rows"] (spBlock K p.C_Block p.C_NoBlock):=by
 refine D_Block___init__.fn.okX z0h (λvs H Q E h=>?_) (λcdv A outer s H vs Q E hr h=>?_)
 ·obtain⟨b,dx,v,rs,rfl,_⟩:=h
  rfl
 ·obtain⟨b,dx,v,rs,rfl,hb,hR,hS,k,kX⟩:=h
  refine⟨_,(q0c (q1r (q0h G_check_lengths_blocks (hr.mono (by decide)) rfl D_check_lengths_blocks.m D_check_lengths_blocks.fn.kp D_check_lengths_blocks.b .nil (Lets.passes q5q) (q0a (pv 1) q0b)))
   (q0c (q1r (q0h G_check_things (hr.mono (by decide)) rfl D_check_things.m D_check_things.fn.kp D_check_things.b .nil (Lets.passes q5q) (q0a (pv 1) q0b)))
   (q0c (q1r (q0h G_check_columns (hr.mono (by decide)) rfl D_check_columns.m D_check_columns.fn.kp D_check_columns.b .nil (Lets.passes q5q) (q0a (pv 1) q0b)))
   (q0d (q4b (pv 0) (q7v (q7i) rfl T.z_tuple z6i (q0a (pv 1) q0b)) rfl))))),?_⟩
  refine⟨_,rfl,v,rs,rfl,hR,hS,rfl,λe1 H1 s1=>?_,λe1 H1 s1=>kX (by unfold q2y;rw[e1];rfl) H1 s1⟩
  refine⟨_,rfl,v,rs,rfl,hR.same s1,hS,rfl,λe2 H2 s2=>?_,λe2 H2 s2=>kX (by have e2':rs.all q4r=false:=e2;unfold q2y;rw[e2',Bool.false_and,Bool.and_false]) H2 (s1.trans s2)⟩
  refine⟨_,rfl,v,rs,rfl,(hR.same s1).same s2,hS,e1,λe3 H3 s3=>?_,λe3 H3 s3=>kX (by unfold q2y;rw[e3,Bool.and_false,Bool.and_false]) H3 ((s1.trans s2).trans s3)⟩
  have s03:=(s1.trans s2).trans s3
  have hb3:=s03 _ _ hb
  have hall:q2y rs=true:=by have e2':rs.all q4r=true:=e2;unfold q2y;rw[e1,e2',e3];rfl
  obtain⟨a,rfl,hq⟩:=hR.same s03
  refine⟨_,rfl,a,rs.map V.str,rfl,?_⟩
  rcases hq with hq|hq
  ·refine .inl ⟨hq,λq hqn=>⟨_,rfl,b,_,dx,[],rfl,?_,T.cl_Block,T.n_Block_rows,by show 0<1000;decide,?_⟩⟩
   ·exact Same.upd hqn _ _ hb3
   ·have nb:q≠b:=λz=>by rw[z,hb3]at hqn;cases hqn
    refine k hall _ (λa' u h1 h2=>?_) ⟨dx,q,upd_same,.inl (.inl (by rw[upd_ne nb,upd_same]))⟩
    rw[upd_ne h2]
    exact Same.upd hqn _ _ (s03 _ _ h1)
  ·refine .inr ⟨hq,_,rfl,b,_,dx,_,rfl,hb3,T.cl_Block,T.n_Block_rows,by show 0<1000;decide,?_⟩
   refine k hall _ (λa' u h1 h2=>?_) ⟨dx,a,upd_same,SqT.offI hb3 hq⟩
   rw[upd_ne h2]
   exact s03 _ _ h1
theorem ok_law_with {f_law_with:Addr} {fd_law_with:FuncData} {p:Pm} (T:Txt K mg p w) (D_law_with:Dn K mg "_law_with" q8e ["_law_row","_law_k","_law_thing_here"] f_law_with fd_law_with)  :FnOk P w K mg base CX0 1 f_law_with fd_law_with ["_law_row","_law_k","_law_thing_here"] spWith:=by
 refine D_law_with.fn.ok sc_law_with (λvs H Q E h=>?_) (λcdv A outer s H vs Q E hr h=>?_)
 ·obtain⟨r,z,k,rfl,_⟩:=h
  rfl
 ·obtain⟨r,z,k,rfl,hk,hr,hz,kk⟩:=h
  have hz2:r.length<=sizeLine:=Nat.le_trans hr (by decide)
  have e1:=slice_lo (x:=r) (k:=(k:Int)) (by omega) (by omega)
  have e2:=slice_hi (x:=r) (k:=(k:Int)+1) (by omega) (by omega)
  rw[show((k:Int)+1).toNat=k+1 by omega]at e2
  rw[Int.toNat_natCast]at e1
  have l1:(Txt.slice r none (some (k:Int))).cps.size<=1000:=by rw[←Array.length_toList,e1,List.length_take,Array.length_toList];omega
  have l2:(Txt.slice r (some ((k:Int)+1)) none).cps.size<=1000:=by rw[←Array.length_toList,e2,List.length_drop,Array.length_toList];omega
  refine⟨_,(q0d (q0r (q0p q4f (q0p q4f (q5f z4f (pv 0) q7b (q7a (pv 1))) (pv 2)) (q5f z4f (pv 0) (q7a (q0p q1j (pv 1) q0e)) q7b)))),?_⟩
  refine⟨_,rfl,_,rfl,_,rfl,r,rfl,hz2,_,rfl,_,_,rfl,rfl,Nat.le_trans (show _<=2000 from Nat.add_le_add l1 (show z.cps.size<=1000 by omega)) (by decide),?_⟩
  refine⟨_,rfl,_,rfl,_,_,rfl,rfl,_,rfl,r,rfl,hz2,_,_,rfl,rfl,?_,kk _ ?_⟩
  ·show(Txt.slice r none (some (k:Int))++z).cps.size+(Txt.slice r (some ((k:Int)+1)) none).cps.size<=sizeLine
   rw[q8c]
   exact Nat.le_trans (show _<=3000 by omega) (by decide)
  ·rw[q8m,q8m,e1,e2]
theorem z3u {f_check_known f_NoSign___init__:Addr} {fd_check_known fd_NoSign___init__:FuncData} {p:Pm} (T:Txt K mg p w) (D_check_known:Dn K mg "check_known" q5d ["known","rows"] f_check_known fd_check_known) (D_NoSign___init__:Dm K "__init__" "NoSign.__init__" q1i ["self","row","place"] f_NoSign___init__ fd_NoSign___init__) (M_NoSign:XMk K p.C_NoSign f_NoSign___init__) (G_NoSign___init__:FnOk P w K mg base (CXs P w) 1 f_NoSign___init__ fd_NoSign___init__ ["self","row","place"] (spNoSign p.C_NoSign)):FnOk P w K mg base (CXs P w) 3 f_check_known fd_check_known ["known","rows"] (spKnownR K p.C_NoSign):=by
 refine D_check_known.fn.okX q3g (λvs H Q E h=>?_) (λcdv A outer s H vs Q E hr h=>?_)
 ·obtain⟨sg,v,rs,rfl,_⟩:=h
  rfl
 ·obtain⟨sg,v,rs,rfl,hR,hS,kq,k⟩:=h
  obtain⟨c0,rfl,hc⟩:=hR.cp
  refine⟨_,(q0d (q1n q3q rfl (pi_enum rfl T.z_enumerate (q0a (pv 1) q0b)) (z2p (n:=2) rfl (q2p (q0m (i:=2) q3g.nd rfl (Or.inl rfl)) (q2p (q0m (i:=3) q3g.nd rfl (Or.inl rfl)) q8v))) (q0d (q1n q3q rfl (pi_enum rfl T.z_enumerate (q0a (pv 3) q0b)) (z2p (n:=2) rfl (q2p (q0m (i:=4) q3g.nd rfl (Or.inl rfl)) (q2p (q0m (i:=5) q3g.nd rfl (Or.inl rfl)) q8v))) (q0d (q2h (q0v op_notIn_str (pv 5) (pv 0) (by with_unfolding_all rfl)) (q0d (ps_raiseI q5q M_NoSign G_NoSign___init__ (hr.mono (by decide)) D_NoSign___init__.b rfl rfl T.mg_NoSign (q0a (pv 2) (q0a (pv 4) q0b)))) q1a)))))),?_⟩
  refine⟨_,rfl,c0,_,rfl,hc _ (Same.refl _),z5z (K:=K) (c:=c0) (xs:=rs.map V.str) (λi σ H2=>∃v2 v3 v4 v5,σ=[some (.str sg),some c0.val,v2,v3,v4,v5]/\Same H H2/\∀m r,m<i->rs[m]? =some r->Of sg r) ⟨_,_,_,_,rfl,Same.refl _,λm r z=>absurd z (Nat.not_lt_zero _)⟩ (λi σ H2 _ ⟨_,_,_,_,_,s2,_⟩=>hc _ s2) ?_ ?_⟩
  ·rintro i y p1 σ H2 hy hp1 ⟨v2,v3,v4,v5,rfl,s2,hb4⟩
   obtain⟨z,hzr,rfl⟩:=q7m hy
   have hz:=hS.row z (List.mem_of_getElem? hzr)
   have hi:i<rs.length:=(List.getElem?_eq_some_iff.mp hzr).1
   have hl:=hS.len
   refine⟨p1,_,rfl,SqT.of upd_same,rfl,_,_,rfl,_,_,rfl,rfl,?_⟩
   refine⟨_,rfl,.txt z,_,rfl,rfl,z5z (K:=K) (c:=.txt z) (xs:=q2r z) (λj σ H3=>∃v4 v5,σ=[some (.str sg),some c0.val,some (.int (i:Int)),some (.str z),v4,v5]/\Same H H3/\∀k c,k<j->z.cps[k]? =some c->c∈sg.cps.toList) ⟨_,_,rfl,s2.trans (Same.upd hp1),λk c z=>absurd z (Nat.not_lt_zero _)⟩ (λj σ H3 _ _=>rfl) ?_ ?_⟩
   ·rintro j y p2 σ H3 hy hp2 ⟨v4,v5,rfl,s3,hp⟩
    obtain⟨c,hc,rfl⟩:=q7o hy
    have hj:=cps_lt hc
    have s4:=s3.trans (Same.upd (o:=.tup [.int (j:Int),.str ⟨#[c]⟩]) hp2)
    refine⟨p2,_,rfl,SqT.of upd_same,rfl,_,_,rfl,_,_,rfl,rfl,?_⟩
    refine⟨_,rfl,_,rfl,_,_,rfl,rfl,_,rfl,?_⟩
    rw[StrLaws.found_one]
    by_cases hm:c∈sg.cps.toList
    ·rw[decide_eq_true hm]
     refine z3a ⟨_,_,rfl,s4,λk d hk hd=>?_⟩
     by_cases z:k=j
     ·subst z
      rw[hc]at hd
      cases hd
      exact hm
     ·exact hp k d (by omega) hd
    ·rw[decide_eq_false hm]
     refine iteNF ⟨_,rfl,_,rfl,by show 2<=sizeLine;decide,λe hn=>?_⟩
     have hne:H e=none:=Same.free s4 hn
     refine⟨e,i,j,rfl,upd_same,by omega,by omega,λdx H' hk hdx hx hd=>⟨rfl,some dx,hx,k i j ⟨⟨z,c,hzr,hc,hm,hp⟩,hb4⟩ dx _ (λb u hb=>?_) ?_⟩⟩
     ·have nb:b≠e:=λz=>by rw[z,hne]at hb;cases hb
      rw[z1c nb]
      exact hk b u (by rw[upd_ne nb];exact s4 b u hb) nb
     ·have ne:dx≠e:=λz=>by rw[z,upd_same]at hdx;cases hdx
      rw[z1c ne]
      exact hd
   ·rintro σ H3 ⟨v4,v5,rfl,s3,hp⟩
    have oz:Of sg z:=λc hc=>by
     obtain⟨k,hk,e⟩:=List.getElem_of_mem hc
     have hk':k<z.cps.size:=by simpa using hk
     exact hp k c (by rw[q3o];exact hk') (by rw[←Array.getElem?_toList,List.getElem?_eq_getElem hk,e])
    refine⟨_,_,_,_,rfl,s3,λm r hm hr=>?_⟩
    by_cases z:m=i
    ·subst z
     rw[hzr]at hr
     cases hr
     exact oz
    ·exact hb4 m r (by omega) hr
  ·rintro σ H2 ⟨v2,v3,v4,v5,rfl,s2,hb4⟩
   refine kq (λr hr=>?_) H2 s2
   obtain⟨m,hm,e⟩:=List.getElem_of_mem hr
   exact hb4 m r (by rw[List.length_map];exact hm) (by rw[List.getElem?_eq_getElem hm,e])
theorem q8x {f_check_block_rows f_check_known:Addr} {fd_check_block_rows fd_check_known:FuncData} {p:Pm} (T:Txt K mg p w) (D_check_block_rows:Dn K mg "check_block_rows" q2o ["prices","rows"] f_check_block_rows fd_check_block_rows) (D_check_known:Dn K mg "check_known" q5d ["known","rows"] f_check_known fd_check_known) (G_check_known:FnOk P w K mg base (CXs P w) 3 f_check_known fd_check_known ["known","rows"] (spKnownR K p.C_NoSign)):FnOk P w K mg base (CXs P w) 4 f_check_block_rows fd_check_block_rows ["prices","rows"] (z2i K p.C_Prices p.C_NoSign):=by
 refine D_check_block_rows.fn.okX q8u (λvs H Q E h=>?_) (λcdv A outer s H vs Q E hr h=>?_)
 ·obtain⟨x,sg,rows,fo,fm,v,rs,rfl,_⟩:=h
  rfl
 ·obtain⟨x,sg,rows,fo,fm,v,rs,rfl,⟨sig,_,_,_,_,_,_,dx,Pp,o,m,d,kvs,h1,h2,h3,h4,h5,h6⟩,hR,hS,kq,k⟩:=h
  refine⟨_,(q0d (q1r (q0h G_check_known (hr.mono (by decide)) rfl D_check_known.m D_check_known.fn.kp D_check_known.b .nil (Lets.passes q5q) (q0a (q0p q4f (q1d (pv 0) rfl) (q3y (v:=.str (Str.ofString "-")) rfl T.g_GAP ⟨_,rfl⟩)) (q0a (pv 1) q0b))))),?_⟩
  have hz:sg.cps.size+1<=sizeLine:=Nat.le_trans (Nat.add_le_add_right sig.2.1 1) (by decide)
  exact⟨_,rfl,x,_,_,_,_,rfl,h1,T.cl_Prices,T.n_Prices_signs,z4l,_,_,rfl,rfl,hz,_,rfl,knS sg,v,rs,rfl,hR,hS,kq,k⟩
end
section
variable{P:Program}{w:World}{K:PySem.W.Frag}{mg:Str->Option Value}{base:Heap}
theorem z5h {f_thing_cost f_more_cost f_pair_cost:Addr} {fd_thing_cost fd_more_cost fd_pair_cost:FuncData} {p:Pm} (T:Txt K mg p w) (D_thing_cost:Dn K mg "thing_cost" q5v ["prices","one","other"] f_thing_cost fd_thing_cost) (D_more_cost:Dn K mg "more_cost" q3n ["prices"] f_more_cost fd_more_cost) (G_more_cost:FnOk P w K mg base CX0 2 f_more_cost fd_more_cost ["prices"] (spMore K p.C_Prices)) (D_pair_cost:Dn K mg "pair_cost" q4d ["prices","one","other"] f_pair_cost fd_pair_cost) (G_pair_cost:FnOk P w K mg base CX0 1 f_pair_cost fd_pair_cost ["prices","one","other"] (q8d K p.C_Prices)):FnOk P w K mg base CX0 3 f_thing_cost fd_thing_cost ["prices","one","other"] (z2g K p.C_Prices):=by
 refine D_thing_cost.fn.ok z4x (λvs H Q E h=>?_) (λcdv A outer s H vs Q E hr h=>?_)
 ·obtain⟨x,sg,rows,fo,fm,a,b,rfl,_⟩:=h
  rfl
 ·obtain⟨x,sg,rows,fo,fm,a,b,rfl,hP,ha,hb,k⟩:=h
  refine⟨_,(q0c (q2h (PW.pt (pw_and (q0v q7c (pv 1) (q3y (v:=.str (Str.ofString "-")) rfl T.g_GAP ⟨_,rfl⟩) (q1e _)) (z5b (q0v q7c (pv 2) (q3y (v:=.str (Str.ofString "-")) rfl T.g_GAP ⟨_,rfl⟩) (q1e _))))) (q0d (q0r q0e)) q1a)
   (q0c (q2h (PW.pt (pw_or (q0v q7c (pv 1) (q3y (v:=.str (Str.ofString "-")) rfl T.g_GAP ⟨_,rfl⟩) (q1e _)) (pw_or1 (q0v q7c (pv 2) (q3y (v:=.str (Str.ofString "-")) rfl T.g_GAP ⟨_,rfl⟩) (q1e _))))) (q0d (q0r (q0h G_more_cost (hr.mono (by decide)) rfl D_more_cost.m D_more_cost.fn.kp D_more_cost.b .nil q0t (q0a (pv 0) q0b)))) q1a)
   (q0d (q0r (q0h G_pair_cost (hr.mono (by decide)) rfl D_pair_cost.m D_pair_cost.fn.kp D_pair_cost.b .nil q0t (q0a (pv 0) (q0a (pv 1) (q0a (pv 2) q0b)))))))),?_⟩
  refine⟨_,rfl,rfl,_,rfl,?_⟩
  rw[gapD]
  by_cases ea:a=45
  ·rw[decide_eq_true ea]
   refine z3x ⟨_,rfl,rfl,_,rfl,?_⟩
   rw[gapD]
   by_cases eb:b=45
   ·rw[decide_eq_true eb]
    refine z3x ?_
    have z:=k H (Same.refl _)
    rw[tcF_gg ea eb]at z
    exact z
   ·rw[decide_eq_false eb]
    refine z1x ⟨_,rfl,rfl,_,rfl,?_⟩
    rw[gapD,decide_eq_true ea]
    refine z3x ⟨_,rfl,x,sg,rows,fo,fm,rfl,hP,?_⟩
    have z:=k H (Same.refl _)
    rw[tcF_g (λq=>eb q.2) (.inl ea)]at z
    exact z
  ·rw[decide_eq_false ea]
   refine z1x (z1x ⟨_,rfl,rfl,_,rfl,?_⟩)
   rw[gapD,decide_eq_false ea]
   refine z1x ⟨_,rfl,rfl,_,rfl,?_⟩
   rw[gapD]
   by_cases eb:b=45
   ·rw[decide_eq_true eb]
    refine z3x ⟨_,rfl,x,sg,rows,fo,fm,rfl,hP,?_⟩
    have z:=k H (Same.refl _)
    rw[tcF_g (λq=>ea q.1) (.inr eb)]at z
    exact z
   ·rw[decide_eq_false eb]
    obtain⟨i,j,f,k1,k2,k3,k4⟩:=pcF_at (u:=q0s fo.2 fm.2 rows) hP.sqr ((q5s.mp ha).resolve_left ea) ((q5s.mp hb).resolve_left eb)
    refine z1x ⟨_,rfl,_,rfl,_,rfl,x,sg,rows,fo,fm,i,j,a,b,f,rfl,hP,k1,k2,k3,λH' s'=>?_⟩
    have z:=k H' s'
    rw[tcF_p ea eb,k4]at z
    exact z
theorem ok_law_thing {f_law_thing f_more_cost f_pair_cost:Addr} {fd_law_thing fd_more_cost fd_pair_cost:FuncData} {p:Pm} (T:Txt K mg p w) (D_law_thing:Dn K mg "_law_thing" q5n ["_law_prices_here","_law_one","_law_other"] f_law_thing fd_law_thing) (D_more_cost:Dn K mg "more_cost" q3n ["prices"] f_more_cost fd_more_cost) (G_more_cost:FnOk P w K mg base CX0 2 f_more_cost fd_more_cost ["prices"] (spMore K p.C_Prices)) (D_pair_cost:Dn K mg "pair_cost" q4d ["prices","one","other"] f_pair_cost fd_pair_cost) (G_pair_cost:FnOk P w K mg base CX0 1 f_pair_cost fd_pair_cost ["prices","one","other"] (q8d K p.C_Prices)):FnOk P w K mg base CX0 3 f_law_thing fd_law_thing ["_law_prices_here","_law_one","_law_other"] (z2g K p.C_Prices):=by
 refine D_law_thing.fn.ok sc_law_thing (λvs H Q E h=>?_) (λcdv A outer s H vs Q E hr h=>?_)
 ·obtain⟨x,sg,rows,fo,fm,a,b,rfl,_⟩:=h
  rfl
 ·obtain⟨x,sg,rows,fo,fm,a,b,rfl,hP,ha,hb,k⟩:=h
  refine⟨_,(q0c (q2h (PW.pt (pw_and (q0v q7c (pv 1) q2t (q1e _)) (z5b (q0v q7c (pv 2) q2t (q1e _))))) (q0d (q0r q0e)) q1a)
   (q0c (q2h (PW.pt (pw_or (q0v q7c (pv 1) q2t (q1e _)) (pw_or1 (q0v q7c (pv 2) q2t (q1e _))))) (q0d (q0r (q0h G_more_cost (hr.mono (by decide)) rfl D_more_cost.m D_more_cost.fn.kp D_more_cost.b .nil q0t (q0a (pv 0) q0b)))) q1a)
   (q0d (q0r (q0h G_pair_cost (hr.mono (by decide)) rfl D_pair_cost.m D_pair_cost.fn.kp D_pair_cost.b .nil q0t (q0a (pv 0) (q0a (pv 1) (q0a (pv 2) q0b)))))))),?_⟩
  refine⟨_,rfl,rfl,_,rfl,?_⟩
  rw[gapD]
  by_cases ea:a=45
  ·rw[decide_eq_true ea]
   refine z3x ⟨_,rfl,rfl,_,rfl,?_⟩
   rw[gapD]
   by_cases eb:b=45
   ·rw[decide_eq_true eb]
    refine z3x ?_
    have z:=k H (Same.refl _)
    rw[tcF_gg ea eb]at z
    exact z
   ·rw[decide_eq_false eb]
    refine z1x ⟨_,rfl,rfl,_,rfl,?_⟩
    rw[gapD,decide_eq_true ea]
    refine z3x ⟨_,rfl,x,sg,rows,fo,fm,rfl,hP,?_⟩
    have z:=k H (Same.refl _)
    rw[tcF_g (λq=>eb q.2) (.inl ea)]at z
    exact z
  ·rw[decide_eq_false ea]
   refine z1x (z1x ⟨_,rfl,rfl,_,rfl,?_⟩)
   rw[gapD,decide_eq_false ea]
   refine z1x ⟨_,rfl,rfl,_,rfl,?_⟩
   rw[gapD]
   by_cases eb:b=45
   ·rw[decide_eq_true eb]
    refine z3x ⟨_,rfl,x,sg,rows,fo,fm,rfl,hP,?_⟩
    have z:=k H (Same.refl _)
    rw[tcF_g (λq=>ea q.1) (.inr eb)]at z
    exact z
   ·rw[decide_eq_false eb]
    obtain⟨i,j,f,k1,k2,k3,k4⟩:=pcF_at (u:=q0s fo.2 fm.2 rows) hP.sqr ((q5s.mp ha).resolve_left ea) ((q5s.mp hb).resolve_left eb)
    refine z1x ⟨_,rfl,_,rfl,_,rfl,x,sg,rows,fo,fm,i,j,a,b,f,rfl,hP,k1,k2,k3,λH' s'=>?_⟩
    have z:=k H' s'
    rw[tcF_p ea eb,k4]at z
    exact z
theorem z3s {f_column_cost f_thing_cost:Addr} {fd_column_cost fd_thing_cost:FuncData} {p:Pm} (T:Txt K mg p w) (D_column_cost:Dn K mg "column_cost" q5b ["prices","column"] f_column_cost fd_column_cost) (D_thing_cost:Dn K mg "thing_cost" q5v ["prices","one","other"] f_thing_cost fd_thing_cost) (G_thing_cost:FnOk P w K mg base CX0 3 f_thing_cost fd_thing_cost ["prices","one","other"] (z2g K p.C_Prices)):FnOk P w K mg base CX0 4 f_column_cost fd_column_cost ["prices","column"] (spColCost K p.C_Prices):=by
 refine D_column_cost.fn.ok q3f (λvs H Q E h=>?_) (λcdv A outer s H vs Q E hr h=>?_)
 ·obtain⟨x,sg,rows,fo,fm,c,rfl,_⟩:=h
  rfl
 ·obtain⟨x,sg,rows,fo,fm,c,rfl,hP,hO,hc,k⟩:=h
  have hz:c.length<=sizeLine:=Nat.le_trans hc (by decide)
  refine⟨_,(q0c (q0n (i:=2) q3f.nd rfl (Or.inl rfl) q0e)
   (q0c (q1n PassesOwn.never rfl (pi_enum rfl T.z_enumerate (q0a (pv 1) q0b)) (z2p (n:=2) rfl (q2p (q0m (i:=3) q3f.nd rfl (Or.inl rfl)) (q2p (q0m (i:=4) q3f.nd rfl (Or.inr rfl)) q8v))) (q0d (q0n (i:=2) q3f.nd rfl (Or.inl rfl) (q0p q1j (pv 2) (q0i (z0b (K':=K) rfl rfl) rfl T.z_sum bo_sum (q0a (q2f (N:=["one","prices","other"]) rfl (CompSc.freeB (nt:=1) (ix:=[0,4]) rfl (by decide +kernel) (by decide +kernel) (by kernel_rfl) rfl (by kernel_rfl)) (z2o (q5f z4f (pv 1) q7b (q7a (pv 3)))) (λ_ _ _ _ _ _ _=>(q0m (i:=0) (show(["one","prices","other"]:List Str).Nodup by decide +kernel) rfl (Or.inl rfl))) (λ_ _ _ _ _ _ _=>(q0h G_thing_cost (hr.mono (by decide)) rfl D_thing_cost.m D_thing_cost.fn.kp D_thing_cost.b .nil q0t (q0a (pv 1) (q0a (pv 0) (q0a (pv 2) q0b)))))) q0b))))))
   (q0d (q0r (pv 2))))),?_⟩
  refine⟨_,rfl,.txt c,_,rfl,rfl,z5z (K:=K) (c:=.txt c) (xs:=q2r c) (λi σ H2=>∃v3 v4,σ=[some (.ref x),some (.str c),some (.int (colC (tcF sg rows fo fm) c.cps.toList i)),v3,v4]/\Same H H2) ⟨_,_,rfl,Same.refl _⟩ (λi σ H2 _ _=>rfl) ?_ ?_⟩
  ·rintro i y p1 σ H2 hy hp1 ⟨v3,v4,rfl,s2⟩
   obtain⟨d,hd,rfl⟩:=q7o hy
   have hi:=cps_lt hd
   have hdl:c.cps.toList[i]? =some d:=by rw[Array.getElem?_toList];exact hd
   have s3:=s2.trans (Same.upd (o:=.tup [.int (i:Int),.str ⟨#[d]⟩]) hp1)
   have e1:=slice_up c i
   have e2:(Txt.slice c none (some (i:Int))).cps.size=i:=by rw[←Array.length_toList,e1,List.length_take,Array.length_toList];omega
   refine⟨p1,_,rfl,SqT.of upd_same,rfl,_,_,rfl,_,_,rfl,rfl,?_⟩
   refine⟨_,rfl,_,rfl,_,rfl,_,rfl,c,rfl,hz,_,rfl,λl hl=>?_⟩
   refine q4q i (λj=>V.int (tcF sg rows fo fm (c.cps.toList.getD j 0) d)) hl (Nat.lt_of_le_of_lt (show i<=100 by omega) (by decide)) (λj H4 s4 hj=>?_) (λH4 s4=>?_) (λj y H4 H5 R s4 hj hy hR=>?_) λH4 s4 hl4=>?_
   ·show j<(Txt.slice c none (some (i:Int))).cps.size
    omega
   ·show(Txt.slice c none (some (i:Int))).cps.size<=i
    omega
   ·obtain⟨rfl,e,he,rfl⟩:=hy
    have he':c.cps.toList[j]? =some e:=by
     rw[←Array.getElem?_toList,e1,List.getElem?_take,if_pos hj]at he
     exact he
    refine⟨Kp.set0,?_⟩
    refine⟨_,rfl,_,rfl,_,rfl,x,sg,rows,fo,fm,e,d,rfl,hP.same (s3.trans s4),hO _ (List.mem_of_getElem? he'),hO _ (List.mem_of_getElem? hdl),λH6 s6=>?_⟩
    have z:=hR H6 s6
    rw[q0u he']at z
    exact z
   ·refine⟨l,(List.range i).map λj=>tcF sg rows fo fm (c.cps.toList.getD j 0) d,rfl,SqL.of (by rw[hl4,List.map_map];rfl),_,_,rfl,rfl,some (.int (i:Int)),some (.str ⟨#[d]⟩),?_,s3.trans s4⟩
    have e3:colC (tcF sg rows fo fm) c.cps.toList (i+1)=colC (tcF sg rows fo fm) c.cps.toList i+((List.range i).map λj=>tcF sg rows fo fm (c.cps.toList.getD j 0) d).sum:=by
     rw[q9f]
     show colC (tcF sg rows fo fm) c.cps.toList i+sm (λj=>tcF sg rows fo fm (c.cps.toList.getD j 0) (c.cps.toList.getD i 0)) i=_
     rw[q0u hdl]
    rw[e3]
    rfl
  ·rintro σ H2 ⟨v3,v4,rfl,s2⟩
   rw[q3o]
   exact⟨_,rfl,k H2 s2⟩
theorem z3v {f_block_units f_column_cost f_columns_of:Addr} {fd_block_units fd_column_cost fd_columns_of:FuncData} {p:Pm} (T:Txt K mg p w) (D_block_units:Dn K mg "block_units" q5e ["prices","block"] f_block_units fd_block_units) (D_column_cost:Dn K mg "column_cost" q5b ["prices","column"] f_column_cost fd_column_cost) (G_column_cost:FnOk P w K mg base CX0 4 f_column_cost fd_column_cost ["prices","column"] (spColCost K p.C_Prices)) (D_columns_of:Dn K mg "columns_of" q3p ["rows"] f_columns_of fd_columns_of) (G_columns_of:FnOk P w K mg base CX0 3 f_columns_of fd_columns_of ["rows"] (q9e K)):FnOk P w K mg base CX0 5 f_block_units fd_block_units ["prices","block"] (z4e K p.C_Prices p.C_Block):=by
 refine D_block_units.fn.ok z3k (λvs H Q E h=>?_) (λcdv A outer s H vs Q E hr h=>?_)
 ·obtain⟨x,b,sg,rows,fo,fm,rs,rfl,_⟩:=h
  rfl
 ·obtain⟨x,b,sg,rows,fo,fm,rs,rfl,hP,⟨dx,q,hb,hq⟩,hS,hl,hO,k⟩:=h
  obtain⟨hne,hw⟩:=q2j.mp hl
  refine⟨_,(q0d (q0r (q0i (z0b (K':=K) rfl rfl) rfl T.z_sum bo_sum (q0a (q2f (N:=["column","prices"]) rfl (CompSc.freeB (nt:=1) (ix:=[0]) rfl (by decide +kernel) (by decide +kernel) (by kernel_rfl) rfl (by kernel_rfl)) (q2s (q0h G_columns_of (hr.mono (by decide)) rfl D_columns_of.m D_columns_of.fn.kp D_columns_of.b .nil q0t (q0a (q1d (pv 1) rfl) q0b))) (λ_ _ _ _ _ _ _=>(q0m (i:=0) (show(["column","prices"]:List Str).Nodup by decide +kernel) rfl (Or.inl rfl))) (λ_ _ _ _ _ _ _=>(q0h G_column_cost (hr.mono (by decide)) rfl D_column_cost.m D_column_cost.fn.kp D_column_cost.b .nil q0t (q0a (pv 1) (q0a (pv 0) q0b))))) q0b)))),?_⟩
  refine⟨_,rfl,b,_,dx,_,_,rfl,hb,T.cl_Block,T.n_Block_rows,q6i,.ref q,rs,rfl,⟨q,rfl,.inr hq⟩,hS,hl,λl0 H1 s1 hn1 hl1=>?_⟩
  have hwd:wid rs<=1000:=by
   obtain⟨r0,hr0⟩:=List.exists_mem_of_ne_nil rs hne
   rw[←hw r0 hr0]
   exact hS.row r0 hr0
  refine⟨l0,rfl,⟨_,SqL.of hl1⟩,λl hl2=>?_⟩
  refine q4q (wid rs) (λj=>V.int (colC (tcF sg rows fo fm) (q6k rs j) rs.length)) hl2 (Nat.lt_of_le_of_lt hwd (by decide)) (λj H4 s4 hj=>?_) (λH4 s4=>?_) (λj y H4 H5 R s4 hj hy hR=>?_) λH4 s4 hl4=>?_
  ·exact⟨_,_,SqL.of (s4 _ _ hl1),by rw[List.getElem?_map,cols_at hj];rfl⟩
  ·exact⟨_,SqL.of (s4 _ _ hl1),by rw[List.length_map];unfold cols;rw[List.length_map,List.length_range];exact Nat.le_refl _⟩
  ·obtain⟨rfl,hy⟩:=hy
   have ey:=hy _ (SqL.of (s4 _ _ hl1))
   rw[List.getElem?_map,cols_at hj]at ey
   cases ey
   have e1:(colS rs j).cps.toList=q6k rs j:=rfl
   have e2:(colS rs j).cps.size=rs.length:=List.length_map ..
   refine⟨Kp.set0,?_⟩
   refine⟨_,rfl,_,rfl,x,sg,rows,fo,fm,colS rs j,rfl,hP.same (s1.trans s4),λc hc=>?_,by rw[e2];exact hS.len,λH6 s6=>?_⟩
   ·rw[e1]at hc
    obtain⟨r,hr,rfl⟩:=List.mem_map.mp (show c∈rs.map λr=>r.cps.toList.getD j 0 from hc)
    have hj':j<r.cps.toList.length:=by rw[Array.length_toList,hw r hr];exact hj
    rw[q0u (List.getElem?_eq_getElem hj')]
    exact hO r hr _ (List.getElem_mem hj')
   ·rw[e1,e2]
    exact hR H6 s6
  ·refine⟨l,(List.range (wid rs)).map λj=>colC (tcF sg rows fo fm) (q6k rs j) rs.length,rfl,SqL.of (by rw[hl4,List.map_map];rfl),?_⟩
   have z:=k H4 (s1.trans s4)
   unfold z3h at z
   rw[←q9f]at z
   exact z
end
section
variable{P:Program}{w:World}{K:PySem.W.Frag}{mg:Str->Option Value}{base:Heap}
theorem ok_law_signs {f_law_signs f_law_next:Addr} {fd_law_signs fd_law_next:FuncData} {p:Pm} (T:Txt K mg p w) (D_law_signs:Dn K mg "_law_signs" q6w ["_law_script","_law_at","_law_many"] f_law_signs fd_law_signs) (D_law_next:Dn K mg "_law_next" q4e ["_law_script","_law_at"] f_law_next fd_law_next) (G_law_next:FnOk P w K mg base CX0 1 f_law_next fd_law_next ["_law_script","_law_at"] (spNext K)):FnOk P w K mg base CX0 2 f_law_signs fd_law_signs ["_law_script","_law_at","_law_many"] (spSignsC K):=by
 refine D_law_signs.fn.ok q4m (λvs H Q E h=>?_) (λcdv A outer s H vs Q E hr h=>?_)
 ·obtain⟨s,t,ns,k,n,rfl,_⟩:=h
  rfl
 ·obtain⟨s,t,ns,k,n,rfl,hC,hk,hn,kk⟩:=h
  refine⟨_,(q0c (q0n (i:=3) q4m.nd rfl (Or.inr rfl) q2t)
   (q0c (q0n (i:=3) q4m.nd rfl (Or.inr rfl) (q0p q4f (pv 3) q2t))
   (q0c (q0n (i:=4) q4m.nd rfl (Or.inr rfl) (q0h G_law_next (hr.mono (by decide)) rfl D_law_next.m D_law_next.fn.kp D_law_next.b .nil q0t (q0a (pv 0) (q0a (pv 1) q0b))))
   (q0c (q0n (i:=5) q4m.nd rfl (Or.inr rfl) (q0w q0o (q4p (q0a q0e (q0a q0e (q0a q0e (q0a q0e (q0a q0e (q0a q0e q0b))))))) (q0p q2l (pv 4) q0e) (λ_ _=>rfl)))
   (q0d (q0r (z0i PySem.F.plainAttrs_str PySem.F.slot_str_join PySem.F.type_str_join mt_join q2t (q0a (q2f (N:=["_law_k","_law_some","_law_m","_law_turn"]) rfl (CompSc.freeB (nt:=1) (ix:=[3,4,5]) rfl (by decide +kernel) (by decide +kernel) (by kernel_rfl) rfl (by kernel_rfl)) (q1s rfl T.z_range (q0a (pv 2) q0b)) (λ_ _ _ _ _ _ _=>(q0m (i:=0) (show(["_law_k","_law_some","_law_m","_law_turn"]:List Str).Nodup by decide +kernel) rfl (Or.inl rfl))) (λ_ _ _ _ _ _ _=>(q0w q8r (pv 1) (q0p q2l (q0p q1j (q0p q2u (pv 2) q0e) (q0p q7w (pv 0) (pv 3))) q0e) (λ_ _=>rfl)))) q0b)))))))),?_⟩
  refine⟨_,rfl,_,_,rfl,rfl,(by decide +kernel),?_⟩
  obtain⟨S,hS⟩:∃S:Str,S=Str.ofString " !#$&'()*+,./0123456789:;<=>?@ABCDEFGHIJKLMNOPQRSTUVWXYZ" ++Str.ofString "[\\]^_`abcdefghijklmnopqrstuvwxyz{|}~" :=⟨_,rfl⟩
  have hS1:S.cps.size=92:=by rw[hS];kernel_rfl
  have hS2:S.cps.all q2g=true:=by rw[hS];kernel_rfl
  have hS3:S.cps.toList.Nodup:=z4k (by rw[hS];kernel_rfl)
  rw[←hS]
  refine⟨_,rfl,_,rfl,s,t,ns,k,rfl,hC,hk,λm hm hm2=>?_⟩
  refine⟨by show 6<=sizeLine;decide,λq hq=>?_⟩
  have s1:Same (upd H t (.lst [.int (k+1)])) (upd (upd H t (.lst [.int (k+1)])) q (.lst [.int 1,.int 3,.int 5,.int 7,.int 9,.int 11])):=Same.upd hq
  have hq1:upd (upd H t (.lst [.int (k+1)])) q (.lst [.int 1,.int 3,.int 5,.int 7,.int 9,.int 11]) q=some (.lst [.int 1,.int 3,.int 5,.int 7,.int 9,.int 11]):=upd_same
  generalize upd (upd H t (.lst [.int (k+1)])) q (.lst [.int 1,.int 3,.int 5,.int 7,.int 9,.int 11])=H1 at s1 hq1 ⊢
  obtain⟨tv,htv,⟨ht1,ht2⟩,hat⟩:∃tv:Int,(tv=1\/tv=3\/tv=5\/tv=7\/tv=9\/tv=11)/\(0<=tv/\tv<=11)/\atI [V.int 1,.int 3,.int 5,.int 7,.int 9,.int 11] (m % 6)=some (.int tv):=by
   have h1:=Int.emod_nonneg m (show(6:Int)≠0 by decide)
   have h2:=Int.emod_lt_of_pos m (show(0:Int)<6 by decide)
   have e:m % 6=0\/m % 6=1\/m % 6=2\/m % 6=3\/m % 6=4\/m % 6=5:=by omega
   rcases e with e|e|e|e|e|e<;>rw[e]
   ·exact⟨1,by decide,by decide,rfl⟩
   ·exact⟨3,by decide,by decide,rfl⟩
   ·exact⟨5,by decide,by decide,rfl⟩
   ·exact⟨7,by decide,by decide,rfl⟩
   ·exact⟨9,by decide,by decide,rfl⟩
   ·exact⟨11,by decide,by decide,rfl⟩
  refine⟨_,rfl,_,_,rfl,rfl,(by show(0:Int)<6;decide),?_⟩
  refine⟨q,_,_,.int tv,rfl,rfl,SqL.of hq1,hat,?_⟩
  refine⟨rfl,_,rfl,n,rfl,by omega,by omega,λl hl=>?_⟩
  refine q4q n (λi=>sg (S.cps.toList.getD ((m / 6+(i:Int)*tv) % 92).toNat 0)) hl (Nat.lt_of_le_of_lt hn (by decide)) (λi H2 s2 hi=>?_) (λH2 s2=>?_) (λi x H2 H3 R s2 hi y hR=>?_) λH2 s2 hl2=>?_
  ·show i<((n:Nat):Int).toNat
   omega
  ·show((n:Nat):Int).toNat<=n
   omega
  ·obtain⟨rfl,rfl⟩:=y
   refine⟨Kp.set0,?_⟩
   have i1:=Int.emod_nonneg (m / 6+(i:Int)*tv) (show(92:Int)≠0 by decide)
   have i2:=Int.emod_lt_of_pos (m / 6+(i:Int)*tv) (show(0:Int)<92 by decide)
   obtain⟨j,hj⟩:∃j:Nat,(m / 6+(i:Int)*tv) % 92=(j:Int):=⟨_,(Int.toNat_of_nonneg i1).symm⟩
   have hjl:j<S.cps.toList.length:=by rw[Array.length_toList];omega
   refine⟨_,rfl,_,rfl,_,_,rfl,rfl,⟨by decide,by decide⟩,_,rfl,_,rfl,_,_,rfl,rfl,.inl ⟨by omega,by omega⟩,_,_,rfl,rfl,_,_,rfl,rfl,(by show(0:Int)<92;decide),?_⟩
   refine⟨S,_,S.cps.toList[j],rfl,rfl,(by show S.cps.size<=_;rw[hS1];decide),(by rw[Int.zero_add,hj];exact q0q (List.getElem?_eq_getElem hjl)),?_⟩
   have e:S.cps.toList[j]=S.cps.toList.getD ((m / 6+(i:Int)*tv) % 92).toNat 0:=by
    rw[hj,Int.toNat_natCast,q0u (List.getElem?_eq_getElem hjl)]
   rw[e]
   exact hR _ (Same.refl _)
  ·refine⟨l,(List.range n).map (λi:Nat=>S.cps.toList.getD ((m / 6+(i:Int)*tv) % 92).toNat 0),rfl,rfl,?_,?_,kk _ H2 ?_ (λc hc=>?_) (nodup_pick hS3 n (λi _=>?_) λi j hij hj=>turn_ne htv hij (by omega)) (s1.trans s2)⟩
   ·rw[List.map_map]
    exact SqL.of hl2
   ·rw[List.length_map,List.length_range];omega
   ·show((List.range n).map _).length=n
    rw[List.length_map,List.length_range]
   ·obtain⟨i,hi,rfl⟩:=List.mem_map.mp (show c∈(List.range n).map _ from hc)
    have i1:=Int.emod_nonneg (m / 6+(i:Int)*tv) (show(92:Int)≠0 by decide)
    have i2:=Int.emod_lt_of_pos (m / 6+(i:Int)*tv) (show(0:Int)<92 by decide)
    obtain⟨j,hj⟩:∃j:Nat,(m / 6+(i:Int)*tv) % 92=(j:Int):=⟨_,(Int.toNat_of_nonneg i1).symm⟩
    have hjl:j<S.cps.toList.length:=by rw[Array.length_toList];omega
    rw[hj,Int.toNat_natCast,q0u (List.getElem?_eq_getElem hjl)]
    exact Array.all_eq_true_iff_forall_mem.mp hS2 _ (Array.mem_toList_iff.mp (List.getElem_mem hjl))
   ·have i1:=Int.emod_nonneg (m / 6+(i:Int)*tv) (show(92:Int)≠0 by decide)
    have i2:=Int.emod_lt_of_pos (m / 6+(i:Int)*tv) (show(0:Int)<92 by decide)
    rw[Array.length_toList]
    omega
theorem ok_law_price {f_law_price f_law_next:Addr} {fd_law_price fd_law_next:FuncData} {p:Pm} (T:Txt K mg p w) (D_law_price:Dn K mg "_law_price" q6y ["_law_script","_law_at"] f_law_price fd_law_price) (D_law_next:Dn K mg "_law_next" q4e ["_law_script","_law_at"] f_law_next fd_law_next) (G_law_next:FnOk P w K mg base CX0 1 f_law_next fd_law_next ["_law_script","_law_at"] (spNext K)):FnOk P w K mg base CX0 2 f_law_price fd_law_price ["_law_script","_law_at"] (spFrac K):=by
 refine D_law_price.fn.ok q4n (λvs H Q E h=>?_) (λcdv A outer s H vs Q E hr h=>?_)
 ·obtain⟨s,t,ns,k,rfl,_⟩:=h
  rfl
 ·obtain⟨s,t,ns,k,rfl,hC,hk2,kk⟩:=h
  have hS2:=hC.scr'
  have hk:=hC.k0
  refine⟨_,(q0c (q0n (i:=2) q4n.nd rfl (Or.inl rfl) (q0h G_law_next (hr.mono (by decide)) rfl D_law_next.m D_law_next.fn.kp D_law_next.b .nil q0t (q0a (pv 0) (q0a (pv 1) q0b))))
   (q0c (q0n (i:=3) q4n.nd rfl (Or.inl rfl) q0e)
   (q1x (q2h (q0v op_gt (q0i (q0l) rfl T.z_len q0y (q0a (pv 0) q0b)) q0e (q1e _)) (q0d (q0n (i:=3) q4n.nd rfl (Or.inl rfl) (q0w q0o (pv 0) (q0p q2l (q0w q0o (pv 1) q0e (λ_ _=>rfl)) (q0i (q0l) rfl T.z_len q0y (q0a (pv 0) q0b))) (λ_ _=>rfl)))) q1a)
   (q0c (q0n (i:=4) q4n.nd rfl (Or.inl rfl) (q0w q0o (q4p (q0a q0e (q0a q0e (q0a q0e (q0a q0e (q0a q0e (q0a (q0p q1j q0e (q0p q2l (q0p q2u (pv 2) q0e) q0e)) q0b))))))) (q0p q2l (pv 2) q0e) (λ_ _=>rfl)))
   (q0c (q2h (q0v q7c (q0p q2l (q0p q2u (pv 2) q0e) q0e) q0e (q1e _)) (q0d (q0r (q7t (q0a (q0p op_sub (q0p q2l (pv 3) (q0p op_pow q0e q0e)) (q0p q7w q0e (q0p op_pow q0e q0e))) (q0a (pv 4) q0b))))) q1a)
   (q0d (q0r (q7t (q0a (q0p op_sub (q0p q2l (q0p q2u (pv 2) q0e) q0e) q0e) (q0a (pv 4) q0b)))))))))),?_⟩
  refine⟨_,rfl,_,rfl,s,t,ns,k,rfl,hC,hk2,λm hm hm2=>?_⟩
  have hq:=hS2 (.lst [.int (k+1)])
  have hAt:SqL K (upd H t (.lst [.int (k+1)])) t [.int (k+1)]:=SqL.of upd_same
  refine⟨λσ H2=>H2=upd H t (.lst [.int (k+1)])/\∃c:Int,σ=[some (.ref s),some (.ref t),some (.int m),some (.int c),none],?_,?_⟩
  ·refine⟨_,rfl,_,_,rfl,.inl ⟨_,hq,rfl⟩,_,_,rfl,rfl,_,rfl,?_⟩
   refine q2n (λh0=>?_) (λh0=>?_)
   ·have hn:0<ns.length:=by rw[List.length_map]at h0;omega
    have i1:=Int.emod_nonneg (k+1) (show((ns.length:Nat):Int)≠0 by omega)
    have i2:=Int.emod_lt_of_pos (k+1) (show(0:Int)<((ns.length:Nat):Int) by omega)
    obtain⟨j,hj⟩:∃j:Nat,(k+1) % ((ns.length:Nat):Int)=(j:Int):=⟨_,(Int.toNat_of_nonneg i1).symm⟩
    have hjl:j<ns.length:=by omega
    refine⟨_,rfl,_,rfl,t,_,_,_,rfl,rfl,hAt,rfl,_,rfl,_,_,rfl,.inl ⟨_,hq,rfl⟩,_,_,rfl,rfl,(by show(0:Int)<(((ns.map V.int).length:Nat):Int);rw[List.length_map];omega),?_⟩
    refine⟨s,_,_,.int ns[j],rfl,rfl,hq,?_,?_⟩
    ·rw[List.length_map,hj]
     exact q0q (by rw[List.getElem?_map,List.getElem?_eq_getElem hjl];rfl)
    ·exact⟨rfl,_,rfl⟩
   ·exact⟨rfl,_,rfl⟩
  ·rintro σ H2 ⟨rfl,c,rfl⟩
   obtain⟨v,hv,hv1,hv2⟩:∃v:Int,atI [V.int 1,V.int 1,V.int 2,V.int 3,V.int 4,V.int (1+m / 6 % 999)] (m % 6)=some (V.int v)/\1<=v/\v<=999:=by
    have h6:m % 6=0\/m % 6=1\/m % 6=2\/m % 6=3\/m % 6=4\/m % 6=5:=by omega
    rcases h6 with h|h|h|h|h|h
    ·rw[h];exact⟨1,rfl,by omega,by omega⟩
    ·rw[h];exact⟨1,rfl,by omega,by omega⟩
    ·rw[h];exact⟨2,rfl,by omega,by omega⟩
    ·rw[h];exact⟨3,rfl,by omega,by omega⟩
    ·rw[h];exact⟨4,rfl,by omega,by omega⟩
    ·rw[h];exact⟨1+m / 6 % 999,rfl,by omega,by omega⟩
   refine⟨_,rfl,_,_,rfl,rfl,⟨by decide,by decide⟩,_,_,rfl,rfl,(by show(0:Int)<_;decide),_,_,rfl,rfl,(by show 6<=sizeLine;decide),λl hl'=>?_⟩
   have s1:Same (upd H t (.lst [.int (k+1)])) (upd (upd H t (.lst [.int (k+1)])) l (.lst [.int 1,.int 1,.int 2,.int 3,.int 4,.int (1+m / 6 % 999)])):=Same.upd hl'
   have fre:∀r,upd (upd H t (.lst [.int (k+1)])) l (.lst [.int 1,.int 1,.int 2,.int 3,.int 4,.int (1+m / 6 % 999)]) r=none->H r=none:=λr hr=>upd_free (Same.free s1 hr)
   have last:∀c:Int,Sm c->∀r,upd (upd H t (.lst [.int (k+1)])) l (.lst [.int 1,.int 1,.int 2,.int 3,.int 4,.int (1+m / 6 % 999)]) r=none →
     Q (.ref r) (upd (upd (upd H t (.lst [.int (k+1)])) l (.lst [.int 1,.int 1,.int 2,.int 3,.int 4,.int (1+m / 6 % 999)])) r (.tup [.int c,.int v])):=λc hc r hr =>
    kk (c,v) r _ ⟨hv1,hv2,hc⟩ (s1.trans (Same.upd hr)) (fre r hr) upd_same
   refine⟨_,rfl,_,_,rfl,rfl,(by show(0:Int)<_;decide),l,_,_,_,rfl,rfl,SqL.of upd_same,hv,?_⟩
   refine⟨_,rfl,_,_,rfl,rfl,⟨by decide,by decide⟩,_,_,rfl,rfl,(by show(0:Int)<_;decide),rfl,_,rfl,?_⟩
   refine ite_eq (λh4=>?_) (λh4=>?_)
   ·refine⟨_,rfl,_,_,rfl,rfl,⟨by decide,by decide,by decide⟩,_,_,rfl,rfl,(by show(0:Int)<_;decide),_,_,rfl,rfl,⟨by decide,by decide,by decide⟩,_,_,rfl,rfl,.inl ⟨by decide,by decide⟩,_,_,rfl,rfl,_,rfl,?_⟩
    exact⟨by show 2<=sizeLine;decide,λr hr=>last _ (bg_cell40 _) r hr⟩
   ·refine⟨_,rfl,_,_,rfl,rfl,⟨by decide,by decide⟩,_,_,rfl,rfl,(by show(0:Int)<_;decide),_,_,rfl,rfl,_,rfl,?_⟩
    exact⟨by show 2<=sizeLine;decide,λr hr=>last _ (bg_small (by omega) (by omega)) r hr⟩
end
section
variable{P:Program}{w:World}{K:PySem.W.Frag}{mg:Str->Option Value}{base:Heap}
theorem z5l {f_law_prices f_law_price f_Prices___init__:Addr} {fd_law_prices fd_law_price fd_Prices___init__:FuncData} {p:Pm} (T:Txt K mg p w) (D_law_prices:Dn K mg "_law_prices" q5z ["_law_script","_law_at","_law_signs_here","_law_same"] f_law_prices fd_law_prices) (D_law_price:Dn K mg "_law_price" q6y ["_law_script","_law_at"] f_law_price fd_law_price) (G_law_price:FnOk P w K mg base CX0 2 f_law_price fd_law_price ["_law_script","_law_at"] (spFrac K)) (D_Prices___init__:Dm K "__init__" "Prices.__init__" q1h ["self","signs","pairs","opening","more"] f_Prices___init__ fd_Prices___init__) (M_Prices:Mk K p.C_Prices f_Prices___init__) (G_Prices___init__:FnOk P w K mg base CX0 5 f_Prices___init__ fd_Prices___init__ ["self","signs","pairs","opening","more"] (spInit K p.C_Prices)):FnOk P w K mg base CX0 7 f_law_prices fd_law_prices ["_law_script","_law_at","_law_signs_here","_law_same"] (spPricesC K p.C_Prices):=by
 refine D_law_prices.fn.ok q4u (λvs H Q E h=>?_) (λcdv A outer s H vs Q E hr h=>?_)
 ·obtain⟨s,t,ns,k,sg,b,rfl,_⟩:=h
  rfl
 ·obtain⟨s,t,ns,k,sg,b,rfl,hC,hk,hsg,h12,kk⟩:=h
  obtain⟨N,hNe⟩:∃N,N=sg.cps.size:=⟨_,rfl⟩
  have k0:=hC.k0
  have hN2:N<=12:=by omega
  have hz:sg.length<=sizeLine:=Nat.le_trans (show sg.cps.size<=100 by omega) (by decide)
  refine⟨_,(q0c (q6l (i:=4) (N:=["_law_one","_law_script","_law_at","_law_signs_here"]) q4u.nd rfl (Or.inl rfl) rfl (CompSc.freeB (nt:=1) (ix:=[0,1,2]) rfl (by decide +kernel) (by decide +kernel) (by kernel_rfl) rfl (by kernel_rfl)) (z2o (pv 2)) (λ_ _ _ _ _ _ _=>(q0m (i:=0) (show(["_law_one","_law_script","_law_at","_law_signs_here"]:List Str).Nodup by decide +kernel) rfl (Or.inl rfl))) (λ_ _ _ _ _ _ _=>(q2f (N:=["_law_other","_law_script","_law_at"]) rfl (CompSc.freeB (nt:=1) (ix:=[1,2]) rfl (by decide +kernel) (by decide +kernel) (by kernel_rfl) rfl (by kernel_rfl)) (z2o (pv 3)) (λ_ _ _ _ _ _ _=>(q0m (i:=0) (show(["_law_other","_law_script","_law_at"]:List Str).Nodup by decide +kernel) rfl (Or.inl rfl))) (λ_ _ _ _ _ _ _=>(q0h G_law_price (hr.mono (by decide)) rfl D_law_price.m D_law_price.fn.kp D_law_price.b .nil q0t (q0a (pv 1) (q0a (pv 2) q0b)))))))
   (q0c (q1n PassesOwn.never rfl (q1s rfl T.z_range (q0a (q0i (q0l) rfl T.z_len q0y (q0a (pv 2) q0b)) q0b)) (q0m (i:=5) q4u.nd rfl (Or.inl rfl)) (q0d (q1n PassesOwn.never rfl (q1s rfl T.z_range (q0a (pv 5) q0b)) (q0m (i:=6) q4u.nd rfl (Or.inl rfl)) (q0d (q2h (q8q (pv 3)) (q0d (ps_asg (q0w q0o (q0w q0o (pv 4) (pv 6) (λ_ _=>rfl)) (pv 5) (λ_ _=>rfl)) (pg_sub (q0w q0o (pv 4) (pv 5) (λ_ _=>rfl)) (pv 6) z1r))) q1a)))))
   (q0d (q0r (q7u M_Prices G_Prices___init__ (hr.mono (by decide)) rfl T.mg_Prices D_Prices___init__.b .nil q0t (q0a (pv 2) (q0a (pv 4) (q0a (q0h G_law_price (hr.mono (by decide)) rfl D_law_price.m D_law_price.fn.kp D_law_price.b .nil q0t (q0a (pv 0) (q0a (pv 1) q0b))) (q0a (q0h G_law_price (hr.mono (by decide)) rfl D_law_price.m D_law_price.fn.kp D_law_price.b .nil q0t (q0a (pv 0) (q0a (pv 1) q0b))) q0b))))))))),?_⟩
  refine⟨_,rfl,sg,rfl,λl hl=>?_⟩
  have nlt:l≠t:=λz=>by rw[z,hC.at_]at hl;cases hl
  refine⟨λi m ys H2=>m=N-i/\i<=N/\∃rs rows,ys=rs.map V.ref/\rs.length=i/\LMat K (Wo t H2) l rs rows/\(∀r∈rows,r.length=N)/\(∀r∈rows,∀f∈r,OkL f)/\(∀r∈rs,H r=none)/\Same (Wo t H) (Wo t H2)/\H2 t=some (.lst [.int (k+((i*N:Nat):Int))]),⟨N,rfl,Nat.zero_le _,[],[],rfl,rfl,?_,?_,?_,?_,?_,?_⟩,?_⟩
  ·rw[Wo.upd_ne nlt]
   exact⟨rfl,upd_same,List.nodup_nil,(by simp),λi r row h1=>by simp at h1⟩
  ·intro r hr;cases hr
  ·intro r hr;cases hr
  ·intro r hr;cases hr
  ·rw[Wo.upd_ne nlt];exact Same.upd (Wo.free hl)
  ·rw[upd_ne nlt.symm,hC.at_,Nat.zero_mul];simp
  rintro i m' ys H2 ⟨rfl,hi,rs,rows,rfl,hrs,L2',r1,r2,r3,s2,ht2⟩
  by_cases hlt:i<N
  ·refine .inr ⟨(by show i<sg.cps.size;omega),?_⟩
   rintro x H3 ⟨rfl,cx,hcx,rfl⟩
   refine⟨Kp.set0,?_⟩
   refine⟨_,rfl,sg,rfl,λl2 hl2=>?_⟩
   have nlt2:l2≠t:=λz=>by rw[z,ht2]at hl2;cases hl2
   have hl20:H l2=none:=Wo.back s2 ht2 hl2
   refine⟨λj m ys H4=>m=N-j/\j<=N/\H4 l2=some (.lst ys)/\∃ps row,ys=ps.map V.ref/\ps.length=j/\Paired (FrAt K (Wo t H4)) ps row/\(∀f∈row,OkL f)/\Same (Wo t H3) (Wo t H4)/\H4 t=some (.lst [.int (k+((i*N:Nat):Int)+(j:Int))]),
    ⟨N,rfl,Nat.zero_le _,upd_same,[],[],rfl,rfl,.nil,λf hf=>(by cases hf),?_,?_⟩,?_⟩
   ·rw[Wo.upd_ne nlt2];exact Same.upd (Wo.free hl2)
   ·rw[upd_ne nlt2.symm,ht2];simp
   rintro j m' ys H4 ⟨rfl,hj,hl4,ps,row,rfl,hps,hP,ok,s4,ht4⟩
   have s04:Same (Wo t H) (Wo t H4):=s2.trans s4
   by_cases hjt:j<N
   ·refine .inr ⟨(by show j<sg.cps.size;omega),?_⟩
    rintro x H5 ⟨rfl,cy,hcy,rfl⟩
    refine⟨Kp.set0,?_⟩
    have hiN:i*N<=144:=Nat.le_trans (Nat.mul_le_mul (show i<=12 by omega) hN2) (by decide)
    refine⟨_,rfl,_,rfl,s,t,ns,_,rfl,hC.off s04 ht4 (by omega),by omega,λf q H6 okf s6 hqn hq6=>?_⟩
    have w6:=Wo.step s6
    have ht6:=s6 _ _ upd_same
    have nq:q≠t:=q9r hq6 ht6 (by intro z;cases z)
    have hl6:Wo t H6 l2=some (.lst (ps.map V.ref)):=w6 _ _ (Wo.in nlt2 hl4)
    refine⟨Wo.sub _ _ hl6,?_,N-(j+1),by omega,rfl,hjt,upd_same,ps++[q],row++[f],by rw[List.map_append];rfl,by rw[List.length_append,hps];rfl,?_,?_,?_,?_⟩
    ·rw[List.length_map,hps]
     exact Nat.lt_of_lt_of_le (show j<100 by omega) (by decide)
    ·rw[Wo.upd_ne nlt2]
     refine GP.Paired.snoc (Paired.mapP hP λa b z=>SqT.off hl6 (z.same w6)) ?_
     exact SqT.off hl6 (SqT.of (Wo.in nq hq6))
    ·intro g hg
     rcases List.mem_append.mp hg with hg|hg
     ·exact ok g hg
     ·rw[List.mem_singleton.mp hg];exact okf
    ·rw[Wo.upd_ne nlt2]
     exact Same.at (s4.trans w6) (Wo.free hl2)
    ·rw[upd_ne nlt2.symm,ht6]
     simp only[Int.natCast_add,Int.natCast_one,Int.add_assoc]
   ·have ej:j=N:=by omega
    refine .inl ⟨(by show sg.cps.size<=j;omega),?_⟩
    have hlo:Wo t H4 l=some (.lst (rs.map V.ref)):=s4 _ _ L2'.at_
    refine⟨Wo.sub _ _ hlo,?_,N-(i+1),by omega,rfl,hlt,rs++[l2],rows++[row],by rw[List.map_append];rfl,by rw[List.length_append,hrs];rfl,?_,?_,?_,?_,?_,?_⟩
    ·rw[List.length_map,hrs]
     exact Nat.lt_of_lt_of_le (show i<100 by omega) (by decide)
    ·rw[Wo.upd_ne nlt]
     exact L2'.snoc s4 (Wo.free hl2) (Wo.in nlt2 hl4) hP
    ·intro r hr
     rcases List.mem_append.mp hr with hr|hr
     ·exact r1 r hr
     ·rw[List.mem_singleton.mp hr,←Paired.len hP,hps,ej]
    ·intro r hr
     rcases List.mem_append.mp hr with hr|hr
     ·exact r2 r hr
     ·rw[List.mem_singleton.mp hr];exact ok
    ·intro r hr
     rcases List.mem_append.mp hr with hr|hr
     ·exact r3 r hr
     ·rw[List.mem_singleton.mp hr];exact hl20
    ·rw[Wo.upd_ne nlt]
     exact Same.at s04 (Wo.free hl)
    ·rw[upd_ne nlt.symm,ht4,Nat.succ_mul,ej]
     simp only[Int.natCast_add,Int.add_assoc]
  ·have ei:i=N:=by omega
   subst ei
   refine .inl ⟨(by show sg.cps.size<=i;omega),?_⟩
   have hii:i*i<=144:=Nat.le_trans (Nat.mul_le_mul hN2 hN2) (by decide)
   have P2:PairsOk K H t l i (k+((i*i:Nat):Int)) H2:=⟨rs,rows,L2',⟨by rw[←L2'.len,hrs],r1⟩,r2,r3,s2,ht2⟩
   refine⟨_,rfl,_,_,rfl,⟨hz,rfl⟩,((i:Nat):Int),(by rw[hNe];rfl),by omega,by omega,?_⟩
   refine q2w (lo:=0) (n:=((i:Int)).toNat) (λa σ H3=>∃v5 v6,σ=[some (.ref s),some (.ref t),some (.str sg),some (.bl b),some (.ref l),v5,v6]/\PairsOk K H t l i (k+((i*i:Nat):Int)) H3) ⟨_,_,rfl,P2⟩ ?_ ?_
   ·rintro a σ H3 ha ⟨v5,v6,rfl,P3⟩
    refine⟨_,rfl,_,rfl,by omega,by omega,?_⟩
    refine q2w (lo:=0) (n:=(0+(a:Int)).toNat) (λc σ H4=>∃v6,σ=[some (.ref s),some (.ref t),some (.str sg),some (.bl b),some (.ref l),some (.int (0+(a:Int))),v6]/\PairsOk K H t l i (k+((i*i:Nat):Int)) H4) ⟨_,rfl,P3⟩ ?_ ?_
    ·rintro c σ H4 hc ⟨v6,rfl,rs,rows,LM,sq,ok,nw,s4,ht4⟩
     refine⟨_,rfl,_,rfl,?_⟩
     cases b with
     |false=>exact z1x ⟨_,rfl,rs,rows,LM,sq,ok,nw,s4,ht4⟩
     |true =>
      refine z3x ?_
      have ha':a<rows.length:=by rw[sq.1];omega
      have hc':c<rows.length:=by rw[sq.1];omega
      have ha2:a<rs.length:=by rw[LM.len];exact ha'
      have hc2:c<rs.length:=by rw[LM.len];exact hc'
      obtain⟨psa,hra,hPa⟩:=LM.row a _ _ (List.getElem?_eq_getElem ha2) (List.getElem?_eq_getElem ha')
      obtain⟨psc,hrc,hPc⟩:=LM.row c _ _ (List.getElem?_eq_getElem hc2) (List.getElem?_eq_getElem hc')
      have la:=sq.2 rows[a] (List.getElem_mem ha')
      have lc:=sq.2 rows[c] (List.getElem_mem hc')
      have hac:a<psc.length:=by rw[Paired.len hPc,lc];omega
      have hca:c<psa.length:=by rw[Paired.len hPa,la];omega
      obtain⟨f,ef,hf⟩:=Paired.at hPc (List.getElem?_eq_getElem hac)
      have hll:=Wo.sub _ _ LM.at_
      have hrc':=Wo.sub _ _ hrc
      have hra':=Wo.sub _ _ hra
      refine⟨_,rfl,_,rfl,l,_,_,.ref rs[c],rfl,rfl,SqL.of hll,(by rw[Int.zero_add];exact q0q (by rw[List.getElem?_map,List.getElem?_eq_getElem hc2];rfl)),?_⟩
      refine⟨_,rfl,rs[c],_,_,.ref psc[a],rfl,rfl,SqL.of hrc',(by rw[Int.zero_add];exact q0q (by rw[List.getElem?_map,List.getElem?_eq_getElem hac];rfl)),?_⟩
      refine⟨_,rfl,_,rfl,l,_,_,.ref rs[a],rfl,rfl,SqL.of hll,(by rw[Int.zero_add];exact q0q (by rw[List.getElem?_map,List.getElem?_eq_getElem ha2];rfl)),?_⟩
      refine⟨_,rfl,rs[a],_,_,c,rfl,rfl,hra',?_,?_⟩
      ·rw[Int.zero_add]
       unfold ixN
       rw[if_pos (by omega),if_pos (by rw[List.length_map];omega)]
       simp
      have nra:rs[a]≠t:=Wo.ne hra
      refine⟨_,rfl,rs,rows.set a (rows[a].set c f),?_,⟨by rw[List.length_set];exact sq.1,λr hr=>?_⟩,λr hr g hg=>?_,nw,?_,?_⟩
      ·rw[Wo.upd_ne nra]
       exact LM.put (List.getElem?_eq_getElem ha2) (List.getElem?_eq_getElem ha') hra hPa hf
      ·rcases List.mem_or_eq_of_mem_set hr with hr|hr
       ·exact sq.2 r hr
       ·rw[hr,List.length_set];exact la
      ·rcases List.mem_or_eq_of_mem_set hr with hr|hr
       ·exact ok r hr g hg
       ·rw[hr]at hg
        rcases List.mem_or_eq_of_mem_set hg with hg|hg
        ·exact ok _ (List.getElem_mem ha') g hg
        ·rw[hg];exact ok _ (List.getElem_mem hc') f (List.mem_of_getElem? ef)
      ·rw[Wo.upd_ne nra]
       exact Same.at s4 (Wo.free (nw _ (List.getElem_mem ha2)))
      ·rw[upd_ne nra.symm];exact ht4
    ·rintro σ H4 ⟨v6,rfl,P4⟩
     exact⟨_,_,rfl,P4⟩
   ·rintro σ H3 ⟨v5,v6,rfl,rs,rows,LM,sq,okl,nw,s2,ht2⟩
    have C2:Ctr K H3 s t ns (k+((i*i:Nat):Int)):=hC.off s2 ht2 (by omega)
    refine⟨_,rfl,_,rfl,_,rfl,_,rfl,s,t,ns,_,rfl,C2,by omega,λfo o H4 oko s3 hon ho3=>?_⟩
    have w3:=Wo.step s3
    have ht3:=s3 _ _ upd_same
    have C3:Ctr K H4 s t ns (k+((i*i:Nat):Int)+1):=C2.off w3 ht3 (by omega)
    refine⟨_,rfl,_,rfl,s,t,ns,_,rfl,C3,by omega,λfm m H5 okm s4 hmn hm4=>?_⟩
    have w4:=Wo.step s4
    have ht4:=s4 _ _ upd_same
    have ho4:FrAt K H5 o fo:=SqT.of (Wo.sub _ _ (w4 _ _ (Wo.in (q9r ho3 ht3 (by intro z;cases z)) ho3)))
    have hm4':FrAt K H5 m fm:=SqT.of hm4
    have L4:LMat K H5 l rs rows:=((LM.same w3).same w4).same Wo.sub
    have off4:Same (Wo t H) (Wo t H5):=(s2.trans w3).trans w4
    intro x dx hx hdx ndx
    generalize hH6:upd (upd H5 dx (.own x)) x (.ins p.C_Prices dx [])=H6
    have s6:Same H5 H6:=by
     rw[←hH6]
     exact(Same.upd hdx).trans (Same.upd (by rw[upd_ne ndx.symm];exact hx))
    have hx6:H6 x=some (.ins p.C_Prices dx []):=by rw[←hH6];exact upd_same
    refine⟨x,dx,o,m,sg,.lst l,rows,fo,fm,rfl,hx6,hsg,h12,(L4.same s6).matN,(by rw[←hNe];exact sq),λr hr f hf=>(okl r hr f hf).h,ho4.same s6,oko.h,hm4'.same s6,okm.h,λH7 P7 f7 nf7=>⟨rfl,?_⟩⟩
    have s7:Same H5 H7:=λb u e=>f7 b u (s6 b u e) λz=>by rw[z,hx]at e;cases e
    exact kk x H7 _ (loR rows) (loF fo) (loF fm) (P7.wo (s7 _ _ ht4) (nf7 t (by rw[s6 _ _ ht4];exact λz=>nomatch z))) (Wo.back off4 ht4 hx) (off4.trans (Wo.same s7)) (s7 _ _ ht4) (by omega) (by omega)
end
section
variable{P:Program}{w:World}{K:PySem.W.Frag}{mg:Str->Option Value}{base:Heap}
theorem ok_law_cost {f_law_cost f_law_thing:Addr} {fd_law_cost fd_law_thing:FuncData} {p:Pm} (T:Txt K mg p w) (D_law_cost:Dn K mg "_law_cost" q8g ["_law_prices_here","_law_rows_here"] f_law_cost fd_law_cost) (D_law_thing:Dn K mg "_law_thing" q5n ["_law_prices_here","_law_one","_law_other"] f_law_thing fd_law_thing) (G_law_thing:FnOk P w K mg base CX0 3 f_law_thing fd_law_thing ["_law_prices_here","_law_one","_law_other"] (z2g K p.C_Prices)):FnOk P w K mg base CX0 4 f_law_cost fd_law_cost ["_law_prices_here","_law_rows_here"] (spCostC K p.C_Prices):=by
 refine D_law_cost.fn.ok q4c (λvs H Q E h=>?_) (λcdv A outer s H vs Q E hr h=>?_)
 ·obtain⟨x,a,sg,rows,fo,fm,rs,rfl,_⟩:=h
  rfl
 ·obtain⟨x,a,sg,rows,fo,fm,rs,rfl,hP,ha,hS,hl,hO,k⟩:=h
  obtain⟨hne,hw⟩:=q2j.mp hl
  have hn:=hS.len
  have hr0:rs[0]? =some (rs.headD ⟨#[]⟩):=by
   cases rs with
   |nil=>exact absurd rfl hne
   |cons r0 t=>rfl
  have hwd:wid rs<=1000:=hS.row _ (List.mem_of_getElem? hr0)
  have hat:∀i k,i<rs.length->k<wid rs->∃r,rs[i]? =some r/\r.cps.size<=1000/\r.cps.toList[k]? =some (thAt rs i k)/\thAt rs i k∈(knS sg).cps.toList:=λi k hi hk=>by
   have hm:=List.getElem_mem hi
   have hk':k<rs[i].cps.toList.length:=by rw[Array.length_toList,hw _ hm];exact hk
   have e:thAt rs i k=rs[i].cps.toList[k]:=by
    unfold thAt
    rw[q0u (List.getElem?_eq_getElem hi),q0u (List.getElem?_eq_getElem hk')]
   exact⟨rs[i],List.getElem?_eq_getElem hi,hS.row _ hm,by rw[e];exact List.getElem?_eq_getElem hk',by rw[e];exact hO _ hm _ (List.getElem_mem hk')⟩
  obtain⟨g,hg⟩:∃g:Nat->Nat->Nat->Int,g=λk i r=>tcF sg rows fo fm (thAt rs i k) (thAt rs r k):=⟨_,rfl⟩
  obtain⟨R,hR⟩:∃R:Nat->Nat->Int,R=λi j=>if i<j then sm (λk=>g k i j) (wid rs)else 0:=⟨_,rfl⟩
  refine⟨_,(q0c (q0n (i:=2) q4c.nd rfl (Or.inl rfl) q0e)
   (q0c (q1n PassesOwn.never rfl (q1s rfl T.z_range (q0a (q0i (q0l) rfl T.z_len q0y (q0a (pv 1) q0b)) q0b)) (q0m (i:=3) q4c.nd rfl (Or.inl rfl)) (q0d (q1n PassesOwn.never rfl (pi_range2 rfl T.z_range (q0a (q0p q1j (pv 3) q0e) (q0a (q0i (q0l) rfl T.z_len q0y (q0a (pv 1) q0b)) q0b))) (q0m (i:=4) q4c.nd rfl (Or.inl rfl)) (q0d (q1n PassesOwn.never rfl (q1s rfl T.z_range (q0a (q0i (q0l) rfl T.z_len q0y (q0a (q0w q0o (pv 1) q0e (λ_ _=>rfl)) q0b)) q0b)) (q0m (i:=5) q4c.nd rfl (Or.inl rfl)) (q0d (q0n (i:=2) q4c.nd rfl (Or.inl rfl) (q0p q1j (pv 2) (q0h G_law_thing (hr.mono (by decide)) rfl D_law_thing.m D_law_thing.fn.kp D_law_thing.b .nil q0t (q0a (pv 0) (q0a (q0w q8r (q0w q0o (pv 1) (pv 3) (λ_ _=>rfl)) (pv 5) (λ_ _=>rfl)) (q0a (q0w q8r (q0w q0o (pv 1) (pv 4) (λ_ _=>rfl)) (pv 5) (λ_ _=>rfl)) q0b))))))))))))
   (q0d (q0r (pv 2))))),?_⟩
  refine⟨_,rfl,_,_,rfl,.inl ⟨_,ha,rfl⟩,((rs.length:Nat):Int),(by rw[List.length_map]),by omega,by omega,?_⟩
  refine q2w (lo:=0) (n:=((rs.length:Nat):Int).toNat) (λi σ H2=>∃v3 v4 v5,σ=[some (.ref x),some (.ref a),some (.int (sm (λi=>sm (R i) rs.length) i)),v3,v4,v5]/\Same H H2) ⟨_,_,_,rfl,Same.refl _⟩ ?_ ?_
  ·rintro i σ H2 hi ⟨v3,v4,v5,rfl,s2⟩
   have hi':i<rs.length:=by omega
   refine⟨_,rfl,_,_,rfl,rfl,_,rfl,_,_,rfl,.inl ⟨_,Same.seq s2 ha,rfl⟩,0+(i:Int)+1,((rs.length:Nat):Int),(by rw[List.length_map]),⟨by omega,by omega,by omega,by omega⟩,?_⟩
   refine q2w (lo:=0+(i:Int)+1) (n:=(((rs.length:Nat):Int)-(0+(i:Int)+1)).toNat) (λd σ H3=>∃v4 v5,σ=[some (.ref x),some (.ref a),some (.int (sm (λi=>sm (R i) rs.length) i+sm (R i) (i+1+d))),some (.int (0+(i:Int))),v4,v5]/\Same H H3) ⟨v4,v5,?_,s2⟩ ?_ ?_
   ·have e:sm (R i) (i+1+0)=0:=by rw[hR];exact sm_none _ _ (Nat.le_refl _)
    rw[e,Int.add_zero]
    rfl
   ·rintro d σ H3 hd ⟨v4,v5,rfl,s3⟩
    have hj:i+1+d<rs.length:=by omega
    refine⟨_,rfl,a,_,_,.str (rs.headD ⟨#[]⟩),rfl,rfl,Same.seq s3 ha,q0q (j:=0) (by rw[List.getElem?_map,hr0];rfl),_,_,rfl,⟨Nat.le_trans hwd (by decide),rfl⟩,((wid rs:Nat):Int),rfl,by omega,by omega,?_⟩
    refine q2w (lo:=0) (n:=((wid rs:Nat):Int).toNat) (λq σ H4=>∃v5,σ=[some (.ref x),some (.ref a),some (.int (sm (λi=>sm (R i) rs.length) i+sm (R i) (i+1+d)+sm (λk=>g k i (i+1+d)) q)),some (.int (0+(i:Int))),some (.int (0+(i:Int)+1+(d:Int))),v5]/\Same H H4) ⟨v5,?_,s3⟩ ?_ ?_
    ·show _=[_,_,some (V.int (_+0)),_,_,_]
     rw[Int.add_zero]
     rfl
    ·rintro q σ H4 hq ⟨v5,rfl,s4⟩
     obtain⟨r1,e1,z1,c1,o1⟩:=hat i q hi' (by omega)
     obtain⟨r2,e2,z2,c2,o2⟩:=hat (i+1+d) q hj (by omega)
     have a4:=Same.seq s4 ha
     refine⟨_,rfl,_,rfl,_,rfl,_,rfl,a,_,_,.str r1,rfl,rfl,a4,(by rw[Int.zero_add];exact q0q (by rw[List.getElem?_map,e1];rfl)),?_⟩
     refine⟨_,rfl,r1,_,_,rfl,rfl,Nat.le_trans z1 (by decide),(by rw[Int.zero_add];exact q0q c1),?_⟩
     refine⟨_,rfl,_,rfl,a,_,_,.str r2,rfl,rfl,a4,(by rw[show 0+(i:Int)+1+(d:Int)=((i+1+d:Nat):Int) by omega];exact q0q (by rw[List.getElem?_map,e2];rfl)),?_⟩
     refine⟨_,rfl,r2,_,_,rfl,rfl,Nat.le_trans z2 (by decide),(by rw[Int.zero_add];exact q0q c2),?_⟩
     refine⟨x,sg,rows,fo,fm,_,_,rfl,hP.same s4,o1,o2,λH5 s5=>?_⟩
     refine⟨_,_,rfl,rfl,some (.int (0+(q:Int))),?_,s4.trans s5⟩
     have e3:sm (λk=>g k i (i+1+d)) (q+1)=sm (λk=>g k i (i+1+d)) q+tcF sg rows fo fm (thAt rs i q) (thAt rs (i+1+d) q):=by
      show sm (λk=>g k i (i+1+d)) q+g q i (i+1+d)=_
      rw[hg]
     rw[e3,←Int.add_assoc]
     rfl
    ·rintro σ H4 ⟨v5,rfl,s4⟩
     refine⟨some (.int (0+(i:Int)+1+(d:Int))),v5,?_,s4⟩
     have e4:sm (R i) (i+1+d+1)=sm (R i) (i+1+d)+sm (λk=>g k i (i+1+d)) (wid rs):=by
      show sm (R i) (i+1+d)+R i (i+1+d)=_
      rw[hR]
      show _+(if i<i+1+d then _ else _)=_
      rw[if_pos (by omega)]
     rw[show i+1+(d+1)=i+1+d+1 by omega,e4,Int.toNat_natCast,←Int.add_assoc]
   ·rintro σ H3 ⟨v4,v5,rfl,s3⟩
    refine⟨some (.int (0+(i:Int))),v4,v5,?_,s3⟩
    rw[show i+1+(((rs.length:Nat):Int)-(0+(i:Int)+1)).toNat=rs.length by omega]
    rfl
  ·rintro σ H2 ⟨v3,v4,v5,rfl,s2⟩
   refine⟨_,rfl,?_⟩
   have z:=k H2 s2
   rw[←blkC_law]at z
   rw[Int.toNat_natCast,hR,hg]
   exact z
theorem ok_law_whole {f_law_whole:Addr} {fd_law_whole:FuncData} {p:Pm} (T:Txt K mg p w) (D_law_whole:Dn K mg "_law_whole" q6v ["_law_found"] f_law_whole fd_law_whole)  :FnOk P w K mg base CX0 1 f_law_whole fd_law_whole ["_law_found"] spWholeI:=by
 refine D_law_whole.fn.ok sc_law_whole (λvs H Q E h=>?_) (λcdv A outer s H vs Q E hr h=>?_)
 ·obtain⟨n,rfl,_⟩:=h
  rfl
 ·obtain⟨n,rfl,k⟩:=h
  refine⟨_,(q0d (q0r (pe_and (q0i (q7j) rfl T.z_isinstance q5h (q0a (pv 0) (q0a (z5f (v:=.ty "int") rfl T.z_int bo_int rfl) q0b))) (pe_one (pe_not (q0i (q7j) rfl T.z_isinstance q5h (q0a (pv 0) (q0a (z5f (v:=.ty "bool") rfl T.z_bool bo_bool rfl) q0b)))))))),?_⟩
  refine⟨_,rfl,_,_,_,_,rfl,.int n,z5x,_,rfl,z3x ?_⟩
  exact⟨_,rfl,_,_,_,_,rfl,.int n,kit_int_bool,_,rfl,k⟩
end
section
variable{P:Program}{w:World}{K:PySem.W.Frag}{mg:Str->Option Value}{base:Heap}
end
section
variable{P:Program}{w:World}{K:PySem.W.Frag}{mg:Str->Option Value}{base:Heap}
theorem z5m {f_law_column f_law_next:Addr} {fd_law_column fd_law_next:FuncData} {p:Pm} (T:Txt K mg p w) (D_law_column:Dn K mg "_law_column" q6a ["_law_script","_law_at","_law_signs_here","_law_many"] f_law_column fd_law_column) (D_law_next:Dn K mg "_law_next" q4e ["_law_script","_law_at"] f_law_next fd_law_next) (G_law_next:FnOk P w K mg base CX0 1 f_law_next fd_law_next ["_law_script","_law_at"] (spNext K)):FnOk P w K mg base CX0 2 f_law_column fd_law_column ["_law_script","_law_at","_law_signs_here","_law_many"] (spColC K):=by
 refine D_law_column.fn.ok q3r (λvs H Q E h=>?_) (λcdv A outer s H vs Q E hr h=>?_)
 ·obtain⟨s,t,ns,k,x,n,rfl,_⟩:=h
  rfl
 ·obtain⟨s,t,ns,k,x,n,rfl,hC,hk,hn0,hn,hx0,hx,hxs,kk⟩:=h
  have k0:=hC.k0
  have hz:x.length<=sizeLine:=Nat.le_trans hx (by decide)
  have pick:∀i:Int,0<=i->∃c,atI x.cps.toList (i % ((x.cps.size:Nat):Int))=some c/\(q2g c=true/\c∈x.cps.toList):=λi hi=>by
   have i1:=Int.emod_nonneg i (show((x.cps.size:Nat):Int)≠0 by omega)
   have i2:=Int.emod_lt_of_pos i (show(0:Int)<((x.cps.size:Nat):Int) by omega)
   obtain⟨j,hj⟩:∃j:Nat,i % ((x.cps.size:Nat):Int)=(j:Int):=⟨_,(Int.toNat_of_nonneg i1).symm⟩
   have hjl:j<x.cps.toList.length:=by rw[Array.length_toList];omega
   exact⟨x.cps.toList[j],by rw[hj];exact q0q (List.getElem?_eq_getElem hjl),⟨hxs _ (List.getElem_mem hjl),List.getElem_mem hjl⟩⟩
  refine⟨_,(q0c (q0n (i:=4) q3r.nd rfl (Or.inl rfl) (q4p q0b))
   (q0c (q1n PassesOwn.never rfl (q1s rfl T.z_range (q0a (pv 3) q0b)) (q0m (i:=5) q3r.nd rfl (Or.inl rfl)) (q0c (q0n (i:=6) q3r.nd rfl (Or.inl rfl) (q0h G_law_next (hr.mono (by decide)) rfl D_law_next.m D_law_next.fn.kp D_law_next.b .nil q0t (q0a (pv 0) (q0a (pv 1) q0b))))
   (q0d (q2h (q0v q7c (q0p q2l (pv 6) q0e) q0e (q1e _)) (q0d (q1r (z0i PySem.F.plainAttrs_list PySem.F.slot_list_append PySem.F.type_list_append q2v (pv 4) (q0a q2t q0b)))) (q0d (q1r (z0i PySem.F.plainAttrs_list PySem.F.slot_list_append PySem.F.type_list_append q2v (pv 4) (q0a (q0w q8r (pv 2) (q0p q2l (q0p q2u (pv 6) q0e) (q0i (q0l) rfl T.z_len q0y (q0a (pv 2) q0b))) (λ_ _=>rfl)) q0b))))))))
   (q0c (q2h (q0v (op_eqL (Nat.lt_of_succ_lt (z3y hr))) (pv 4) (q0p op_rep (q4p (q0a q2t q0b)) (pv 3)) (q1e _)) (q0c (q0n (i:=6) q3r.nd rfl (Or.inl rfl) (q0h G_law_next (hr.mono (by decide)) rfl D_law_next.m D_law_next.fn.kp D_law_next.b .nil q0t (q0a (pv 0) (q0a (pv 1) q0b))))
   (q0d (ps_asg (q0w q8r (pv 2) (q0p q2l (q0p q2u (pv 6) (pv 3)) (q0i (q0l) rfl T.z_len q0y (q0a (pv 2) q0b))) (λ_ _=>rfl)) (pg_sub (pv 4) (q0p q2l (pv 6) (pv 3)) z1r)))) q1a)
   (q0d (q0r (pv 4)))))),?_⟩
  refine⟨by show 0<=sizeLine;decide,λl hl=>?_⟩
  have nlt:l≠t:=λz=>by rw[z,hC.at_]at hl;cases hl
  refine⟨_,rfl,n,rfl,by omega,by omega,?_⟩
  rw[show((n:Nat):Int).toNat=n by omega]
  refine q2w (lo:=0) (n:=n) (λi σ H2=>∃(cs:List Nat) (v5 v6:Option V),σ=[some (.ref s),some (.ref t),some (.str x),some (.int n),some (.ref l),v5,v6]/\cs.length=i/\(∀c∈cs,okX x c)/\H2 l=some (.lst (cs.map sg))/\Same (Wo t H) (Wo t H2)/\H2 t=some (.lst [.int (k+(i:Int))])) ⟨[],_,_,rfl,rfl,λc hc=>(by cases hc),upd_same,by rw[Wo.upd_ne nlt];exact Same.upd (Wo.free hl),by rw[upd_ne nlt.symm,hC.at_];simp⟩ ?_ ?_
  ·rintro i σ H2 hi ⟨cs,v5,v6,rfl,hcl,hok,hl2,w2,ht2⟩
   have C2:Ctr K H2 s t ns (k+(i:Int)):=hC.off w2 ht2 (by omega)
   refine⟨_,rfl,_,rfl,s,t,ns,_,rfl,C2,by omega,λm hm hm2=>?_⟩
   have hl3:upd H2 t (.lst [.int (k+(i:Int)+1)]) l=some (.lst (cs.map sg)):=by rw[upd_ne nlt];exact hl2
   have w3:Same (Wo t H) (Wo t (upd H2 t (.lst [.int (k+(i:Int)+1)]))):=by rw[Wo.set];exact w2
   have ht3:upd H2 t (.lst [.int (k+(i:Int)+1)]) t=some (.lst [.int (k+(i:Int)+1)]):=upd_same
   generalize upd H2 t (.lst [.int (k+(i:Int)+1)])=H3 at hl3 w3 ht3 ⊢
   have fin:∀c:Nat,okX x c->∃(cs':List Nat) (v5 v6:Option V),[some (V.ref s),some (.ref t),some (.str x),some (.int n),some (.ref l),some (.int (0+(i:Int))),some (.int m)]=[some (.ref s),some (.ref t),some (.str x),some (.int n),some (.ref l),v5,v6]/\cs'.length=i+1/\(∀c∈cs',okX x c)/\upd H3 l (.lst (cs.map sg++[sg c])) l=some (.lst (cs'.map sg))/\Same (Wo t H) (Wo t (upd H3 l (.lst (cs.map sg++[sg c]))))/\upd H3 l (.lst (cs.map sg++[sg c])) t=some (.lst [.int (k+((i+1:Nat):Int))]):=λc hc=>by
    refine⟨cs++[c],_,_,rfl,by rw[List.length_append,hcl];rfl,λd hd=>?_,by rw[upd_same,List.map_append];rfl,?_,?_⟩
    ·rcases List.mem_append.mp hd with hd|hd
     ·exact hok d hd
     ·rw[List.mem_singleton.mp hd];exact hc
    ·rw[Wo.upd_ne nlt]
     exact Same.at w3 (Wo.free hl)
    ·rw[upd_ne nlt.symm,ht3]
     simp only[Int.natCast_add,Int.natCast_one,Int.add_assoc]
   have hlen:(cs.map sg).length<sizeLine:=by rw[List.length_map,hcl];exact Nat.lt_of_lt_of_le (show i<100 by omega) (by decide)
   refine⟨_,rfl,_,_,rfl,rfl,(by show(0:Int)<3;decide),rfl,_,rfl,?_⟩
   by_cases z:V.int (m % 3)=V.int 0
   ·rw[decide_eq_true z]
    exact z3x ⟨_,rfl,.inl ⟨rfl,_,SqL.of hl3⟩,l,_,_,rfl,rfl,hl3,hlen,fin 45 okX.gap⟩
   ·rw[decide_eq_false z]
    obtain⟨c,hc,hs⟩:=pick (m / 3) (Int.ediv_nonneg hm (by decide))
    exact z1x ⟨_,rfl,.inl ⟨rfl,_,SqL.of hl3⟩,_,rfl,_,rfl,_,_,rfl,rfl,⟨by decide,by decide⟩,_,rfl,_,_,rfl,⟨hz,rfl⟩,_,_,rfl,rfl,(by show(0:Int)<((x.cps.size:Nat):Int);omega),x,_,c,rfl,rfl,hz,hc,l,_,_,rfl,rfl,hl3,hlen,fin c (.of hs)⟩
  ·rintro σ H2 ⟨cs,v5,v6,rfl,hcl,hok,hl2,w2,ht2⟩
   refine⟨_,rfl,by show 1<=sizeLine;decide,λq hq=>?_⟩
   have s3:Same H2 (upd H2 q (.lst [sg 45])):=Same.upd hq
   have hq3:upd H2 q (.lst [sg 45]) q=some (.lst [sg 45]):=upd_same
   generalize hH3:upd H2 q (.lst [sg 45])=H3 at s3 hq3
   have hH3':upd H2 q (.lst [V.str (Str.ofString "-")])=H3:=hH3
   rw[hH3']
   refine⟨_,rfl,q,_,_,rfl,rfl,hq3,by show(-(2 ^ 63):Int)<=(n:Int);omega,by show(n:Int)<2 ^ 63;omega,?_,λq2 hq2=>?_⟩
   ·show 1*((n:Nat):Int).toNat<=sizeLine
    exact Nat.le_trans (show _<=100 by omega) (by decide)
   rw[z1u,show((n:Nat):Int).toNat=n by omega]
   have s4:Same H3 (upd H3 q2 (.lst (List.replicate n (sg 45)))):=Same.upd hq2
   have hq4:upd H3 q2 (.lst (List.replicate n (sg 45))) q2=some (.lst (List.replicate n (sg 45))):=upd_same
   generalize upd H3 q2 (.lst (List.replicate n (sg 45)))=H4 at s4 hq4 ⊢
   have s24:=s3.trans s4
   have hl4:=s24 _ _ hl2
   have ht4:=s24 _ _ ht2
   have w4:Same (Wo t H) (Wo t H4):=w2.trans (Wo.same s24)
   have fr:(List.replicate n (sg 45)).all q8k=true:=List.all_eq_true.mpr λy hy=>by rw[List.eq_of_mem_replicate hy];rfl
   refine⟨l,q2,_,_,rfl,rfl,SqL.of hl4,SqL.of hq4,by rw[List.length_map,List.length_replicate,hcl],by rw[sg_strs];exact flat_strs,fr,_,rfl,?_⟩
   cases z:q6m (cs.map sg) (List.replicate n (sg 45))with
   |false =>
    refine z1x ⟨_,rfl,kk l cs (k+(n:Int)) H4 hcl hok (not_all hcl z) hl4 hl w4 ht4 (by omega) (by omega)⟩
   |true =>
    have C4:Ctr K H4 s t ns (k+(n:Int)):=hC.off w4 ht4 (by omega)
    refine z3x ⟨_,rfl,_,rfl,s,t,ns,_,rfl,C4,by omega,λm hm hm2=>?_⟩
    have hl5:upd H4 t (.lst [.int (k+(n:Int)+1)]) l=some (.lst (cs.map sg)):=by rw[upd_ne nlt];exact hl4
    have w5:Same (Wo t H) (Wo t (upd H4 t (.lst [.int (k+(n:Int)+1)]))):=by rw[Wo.set];exact w4
    have ht5:upd H4 t (.lst [.int (k+(n:Int)+1)]) t=some (.lst [.int (k+(n:Int)+1)]):=upd_same
    generalize upd H4 t (.lst [.int (k+(n:Int)+1)])=H5 at hl5 w5 ht5 ⊢
    obtain⟨c,hc,hs⟩:=pick (m / (n:Int)) (Int.ediv_nonneg hm (by omega))
    have i1:=Int.emod_nonneg m (show(n:Int)≠0 by omega)
    have i2:=Int.emod_lt_of_pos m (show(0:Int)<(n:Int) by omega)
    obtain⟨j,hj⟩:∃j:Nat,m % (n:Int)=(j:Int):=⟨_,(Int.toNat_of_nonneg i1).symm⟩
    have hjl:j<cs.length:=by omega
    refine⟨_,rfl,_,rfl,_,rfl,_,_,rfl,rfl,?_,_,rfl,_,_,rfl,⟨hz,rfl⟩,_,_,rfl,rfl,(by show(0:Int)<((x.cps.size:Nat):Int);omega),x,_,c,rfl,rfl,hz,hc,_,rfl,_,rfl,_,rfl,_,_,rfl,rfl,(by show(0:Int)<(n:Int);omega),l,_,_,j,rfl,rfl,hl5,?_,?_⟩
    ·exact⟨by omega,by omega⟩
    ·rw[hj,List.length_map]
     show(if(0:Int)<=(j:Int)then(if(j:Int)<(cs.length:Int)then some (j:Int).toNat else none)else _)=some j
     rw[if_pos (by omega),if_pos (by omega),Int.toNat_natCast]
    ·have e:(cs.map sg).set j (sg c)=(cs.set j c).map sg:=by rw[List.map_set]
     rw[e]
     refine⟨_,rfl,kk l (cs.set j c) (k+(n:Int)+1) _ (by rw[List.length_set];exact hcl) (λd hd=>?_) ⟨c,List.mem_set hjl c,sign_ne hs.1⟩ upd_same hl ?_ ?_ (by omega) (by omega)⟩
     ·rcases List.mem_or_eq_of_mem_set hd with hd|hd
      ·exact hok d hd
      ·rw[hd];exact .of hs
     ·rw[Wo.upd_ne nlt]
      exact Same.at w5 (Wo.free hl)
     ·rw[upd_ne nlt.symm]
      exact ht5
theorem ok_law_rows {f_law_rows f_law_column:Addr} {fd_law_rows fd_law_column:FuncData} {p:Pm} (T:Txt K mg p w) (D_law_rows:Dn K mg "_law_rows" q8f ["_law_script","_law_at","_law_signs_here","_law_many","_law_columns"] f_law_rows fd_law_rows) (D_law_column:Dn K mg "_law_column" q6a ["_law_script","_law_at","_law_signs_here","_law_many"] f_law_column fd_law_column) (G_law_column:FnOk P w K mg base CX0 2 f_law_column fd_law_column ["_law_script","_law_at","_law_signs_here","_law_many"] (spColC K)):FnOk P w K mg base CX0 3 f_law_rows fd_law_rows ["_law_script","_law_at","_law_signs_here","_law_many","_law_columns"] (spRowsC K):=by
 refine D_law_rows.fn.ok q5l (λvs H Q E h=>?_) (λcdv A outer s H vs Q E hr h=>?_)
 ·obtain⟨s,t,ns,k,x,n,m,rfl,_⟩:=h
  rfl
 ·obtain⟨s,t,ns,k,x,n,m,rfl,hC,hk,hn0,hn,hm,hx0,hx,hxs,kk⟩:=h
  have k0:=hC.k0
  refine⟨_,(q0c (q0n (i:=5) q5l.nd rfl (Or.inr rfl) (q0p op_rep (q4p (q0a q2t q0b)) (pv 3)))
   (q0c (q1n PassesOwn.never rfl (q1s rfl T.z_range (q0a (pv 4) q0b)) (q0m (i:=6) q5l.nd rfl (Or.inl rfl)) (q0c (q0n (i:=7) q5l.nd rfl (Or.inr rfl) (q0h G_law_column (hr.mono (by decide)) rfl D_law_column.m D_law_column.fn.kp D_law_column.b .nil q0t (q0a (pv 0) (q0a (pv 1) (q0a (pv 2) (q0a (pv 3) q0b))))))
   (q0d (q0n (i:=5) q5l.nd rfl (Or.inr rfl) (q2f (N:=["_law_r","_law_rows_here","_law_column_here"]) rfl (CompSc.freeB (nt:=1) (ix:=[5,7]) rfl (by decide +kernel) (by decide +kernel) (by kernel_rfl) rfl (by kernel_rfl)) (q1s rfl T.z_range (q0a (pv 3) q0b)) (λ_ _ _ _ _ _ _=>(q0m (i:=0) (show(["_law_r","_law_rows_here","_law_column_here"]:List Str).Nodup by decide +kernel) rfl (Or.inl rfl))) (λ_ _ _ _ _ _ _=>(q0p q4f (q0w (ix_listK (K':=K) rfl) (pv 1) (pv 0) (λ_ _=>rfl)) (q0w (ix_listK (K':=K) rfl) (pv 2) (pv 0) (λ_ _=>rfl)))))))))
   (q0d (q0r (pv 5))))),?_⟩
  refine⟨by show 1<=sizeLine;decide,λq hq=>?_⟩
  have s1:Same H (upd H q (.lst [.str ⟨#[]⟩])):=Same.upd hq
  have hq1:upd H q (.lst [.str ⟨#[]⟩]) q=some (.lst [.str ⟨#[]⟩]):=upd_same
  generalize hH1:upd H q (.lst [.str ⟨#[]⟩])=H1 at s1 hq1
  have hH1':upd H q (.lst [V.str (Str.ofString "")])=H1:=hH1
  rw[hH1']
  refine⟨_,rfl,q,_,_,rfl,rfl,hq1,by show(-(2 ^ 63):Int)<=(n:Int);omega,by show(n:Int)<2 ^ 63;omega,?_,λl0 hl0=>?_⟩
  ·show 1*((n:Nat):Int).toNat<=sizeLine
   exact Nat.le_trans (show _<=100 by omega) (by decide)
  rw[z1u,show((n:Nat):Int).toNat=n by omega]
  have s2:Same H1 (upd H1 l0 (.lst (List.replicate n (.str ⟨#[]⟩)))):=Same.upd hl0
  have hl2:upd H1 l0 (.lst (List.replicate n (.str ⟨#[]⟩))) l0=some (.lst (List.replicate n (.str ⟨#[]⟩))):=upd_same
  generalize upd H1 l0 (.lst (List.replicate n (.str ⟨#[]⟩)))=H2 at s2 hl2 ⊢
  have s02:=s1.trans s2
  refine⟨_,rfl,m,rfl,by omega,by omega,?_⟩
  rw[show((m:Nat):Int).toNat=m by omega]
  have r0:RsOk (List.replicate n (⟨#[]⟩:Str)) n 0:=⟨List.length_replicate,λr hr=>(by rw[List.eq_of_mem_replicate hr];rfl),λr hr c hc=>(by rw[List.eq_of_mem_replicate hr]at hc;cases hc),λj hj=>(by omega)⟩
  refine q2w (lo:=0) (n:=m) (λi σ H3=>∃(l:Addr) (rs:List Str) (k':Int) (v6 v7:Option V),σ=[some (.ref s),some (.ref t),some (.str x),some (.int n),some (.int m),some (.ref l),v6,v7]/\RsOk rs n i/\(∀r∈rs,Of (knS x) r)/\H3 l=some (.lst (rs.map V.str))/\H l=none/\Same (Wo t H) (Wo t H3)/\H3 t=some (.lst [.int k'])/\k<=k'/\k'<=k+20*(i:Int)) ⟨l0,_,k,_,_,rfl,r0,(λr hr c hc=>(by rw[List.eq_of_mem_replicate hr]at hc;cases hc)),by rw[hl2,List.map_replicate],s1.free hl0,Wo.same s02,s02 _ _ hC.at_,by omega,by omega⟩ ?_ ?_
  ·rintro i σ H3 hi ⟨l,rs,k',v6,v7,rfl,hR,hO,hl3,hln,w3,ht3,kb1,kb2⟩
   have C3:Ctr K H3 s t ns k':=hC.off w3 ht3 (by omega)
   refine⟨_,rfl,_,rfl,_,rfl,_,rfl,s,t,ns,k',x,n,rfl,C3,by omega,hn0,hn,hx0,hx,hxs,λlc cs k2 H4 hcl hok hg hlc hlcn w4 ht4 kb3 kb4=>?_⟩
   have nlt:l≠t:=λz=>by rw[z,hC.at_]at hln;cases hln
   have hl4:H4 l=some (.lst (rs.map V.str)):=Wo.sub _ _ (w4 _ _ (Wo.in nlt hl3))
   refine⟨_,rfl,n,rfl,by omega,by omega,λl2 hl2n=>?_⟩
   refine q4q n (λr=>V.str (rs.getD r ⟨#[]⟩++⟨#[cs.getD r 0]⟩)) hl2n (Nat.lt_of_le_of_lt hn (by decide)) (λr H5 s5 hr=>?_) (λH5 s5=>?_) (λr y H5 H6 R s5 hr hy hRR=>?_) λH5 s5 hl5=>?_
   ·show r<((n:Nat):Int).toNat
    omega
   ·show((n:Nat):Int).toNat<=n
    omega
   ·obtain⟨rfl,rfl⟩:=hy
    have h1:r<rs.length:=by rw[hR.len];exact hr
    have h2:r<cs.length:=by rw[hcl];exact hr
    have e1:=List.getElem?_eq_getElem h1
    have e2:=List.getElem?_eq_getElem h2
    refine⟨Kp.set0,?_⟩
    refine⟨_,rfl,_,rfl,l,_,_,.str rs[r],rfl,rfl,SqL.of (s5 _ _ hl4),?_,_,rfl,_,rfl,lc,_,_,sg cs[r],rfl,rfl,SqL.of (s5 _ _ hlc),?_,_,_,rfl,rfl,?_,?_⟩
    ·rw[Int.zero_add];exact q0q (by rw[List.getElem?_map,e1];rfl)
    ·rw[Int.zero_add];exact q0q (by rw[List.getElem?_map,e2];rfl)
    ·show rs[r].cps.size+1<=sizeLine
     rw[hR.wid _ (List.getElem_mem h1)]
     exact Nat.le_trans (show i+1<=100 by omega) (by decide)
    ·rw[q0u e1,q0u e2]at hRR
     exact hRR _ (Same.refl _)
   ·refine⟨l2,grown rs cs n,k2,_,_,rfl,hR.next hcl (λc hc=>(hok c hc).1) hg,grown_of hR.len hcl hO (λc hc=>(hok c hc).2),?_,?_,(w3.trans w4).trans (Wo.same s5),s5 _ _ ht4,by omega,by omega⟩
    ·rw[hl5]
     unfold grown
     rw[List.map_map]
     rfl
    ·exact Wo.back (w3.trans w4) ht4 hl2n
  ·rintro σ H3 ⟨l,rs,k',v6,v7,rfl,hR,hO,hl3,hln,w3,ht3,kb1,kb2⟩
   exact⟨_,rfl,kk l rs k' H3 hR hO hl3 hln w3 ht3 kb1 (by omega)⟩
end
section
variable{P:Program}{w:World}{K:PySem.W.Frag}{mg:Str->Option Value}{base:Heap}
theorem z2v {f_cost_by_gaps f_signs_of f_more_cost:Addr} {fd_cost_by_gaps fd_signs_of fd_more_cost:FuncData} {p:Pm} (T:Txt K mg p w) (D_cost_by_gaps:Dn K mg "cost_by_gaps" q4k ["prices","column","many"] f_cost_by_gaps fd_cost_by_gaps) (D_signs_of:Dn K mg "signs_of" q5i ["things"] f_signs_of fd_signs_of) (G_signs_of:FnOk P w K mg base CX0 1 f_signs_of fd_signs_of ["things"] q9d) (D_more_cost:Dn K mg "more_cost" q3n ["prices"] f_more_cost fd_more_cost) (G_more_cost:FnOk P w K mg base CX0 2 f_more_cost fd_more_cost ["prices"] (spMore K p.C_Prices)):FnOk P w K mg base CX0 3 f_cost_by_gaps fd_cost_by_gaps ["prices","column","many"] (spGapC K p.C_Prices):=by
 refine D_cost_by_gaps.fn.ok z2l (λvs H Q E h=>?_) (λcdv A outer s H vs Q E hr h=>?_)
 ·obtain⟨x,sg,rows,fo,fm,c,n,rfl,_⟩:=h
  rfl
 ·obtain⟨x,sg,rows,fo,fm,c,n,rfl,hP,hc,hn,k⟩:=h
  have hl:(sgs c.cps.toList).length<=1000:=Nat.le_trans (List.length_filter_le _ _) (by rw[Array.length_toList];exact hc)
  have e:(q3b 45 c).length=(sgs c.cps.toList).length:=rfl
  refine⟨_,(q0d (q0r (q0p q7w (q0p q7w (q0i (q0l) rfl T.z_len q0y (q0a (q0h G_signs_of (hr.mono (by decide)) rfl D_signs_of.m D_signs_of.fn.kp D_signs_of.b .nil q0t (q0a (pv 1) q0b)) q0b)) (pv 2)) (q0h G_more_cost (hr.mono (by decide)) rfl D_more_cost.m D_more_cost.fn.kp D_more_cost.b .nil q0t (q0a (pv 0) q0b))))),?_⟩
  refine⟨_,rfl,c,rfl,hc,_,_,rfl,⟨Nat.le_trans (show(q3b 45 c).length<=1000 from hl) (by decide),rfl⟩,_,rfl,_,_,rfl,rfl,.inl (by rw[e];omega),_,rfl,x,sg,rows,fo,fm,rfl,hP,_,_,rfl,rfl,.inl ?_,k⟩
  have h1:(0:Int)<=(((q3b 45 c).length:Nat):Int)*(n:Int):=Int.mul_nonneg (by omega) (by omega)
  have h2:(((q3b 45 c).length:Nat):Int)*(n:Int)<=1000*1000:=Int.mul_le_mul (by rw[e];omega) (by omega) (by omega) (by omega)
  omega
theorem z1j {f_costs_by_gaps f_cost_by_gaps:Addr} {fd_costs_by_gaps fd_cost_by_gaps:FuncData} {p:Pm} (T:Txt K mg p w) (D_costs_by_gaps:Dn K mg "costs_by_gaps" q3w ["prices","columns","many"] f_costs_by_gaps fd_costs_by_gaps) (D_cost_by_gaps:Dn K mg "cost_by_gaps" q4k ["prices","column","many"] f_cost_by_gaps fd_cost_by_gaps) (G_cost_by_gaps:FnOk P w K mg base CX0 3 f_cost_by_gaps fd_cost_by_gaps ["prices","column","many"] (spGapC K p.C_Prices)):FnOk P w K mg base CX0 4 f_costs_by_gaps fd_costs_by_gaps ["prices","columns","many"] (spGapCs K p.C_Prices):=by
 refine D_costs_by_gaps.fn.ok z1g (λvs H Q E h=>?_) (λcdv A outer s H vs Q E hr h=>?_)
 ·obtain⟨x,l,sg,rows,fo,fm,cs,n,rfl,_⟩:=h
  rfl
 ·obtain⟨x,l,sg,rows,fo,fm,cs,n,rfl,hP,hl,hc,hs,hn,k⟩:=h
  refine⟨_,(q0d (q0r (q2f (N:=["column","prices","many"]) rfl (CompSc.freeB (nt:=1) (ix:=[0,2]) rfl (by decide +kernel) (by decide +kernel) (by kernel_rfl) rfl (by kernel_rfl)) (q2s (pv 1)) (λ_ _ _ _ _ _ _=>(q0m (i:=0) (show(["column","prices","many"]:List Str).Nodup by decide +kernel) rfl (Or.inl rfl))) (λ_ _ _ _ _ _ _=>(q0h G_cost_by_gaps (hr.mono (by decide)) rfl D_cost_by_gaps.m D_cost_by_gaps.fn.kp D_cost_by_gaps.b .nil q0t (q0a (pv 1) (q0a (pv 0) (q0a (pv 2) q0b)))))))),?_⟩
  refine⟨_,rfl,l,rfl,⟨_,SqL.of hl⟩,λl' hl'=>?_⟩
  refine q4q cs.length (λj=>V.int (gpC (moF rows fo fm) (cs.getD j ⟨#[]⟩) n)) hl' (Nat.lt_of_le_of_lt hc (by decide)) (λj H4 s4 hj=>?_) (λH4 s4=>?_) (λj y H4 H5 R s4 hj hy hR=>?_) λH4 s4 hl4=>?_
  ·exact⟨_,_,SqL.of (s4 _ _ hl),by rw[List.getElem?_map,List.getElem?_eq_getElem hj];rfl⟩
  ·exact⟨_,SqL.of (s4 _ _ hl),by rw[List.length_map];exact Nat.le_refl _⟩
  ·obtain⟨rfl,hy⟩:=hy
   have ey:=hy _ (SqL.of (s4 _ _ hl))
   rw[List.getElem?_map,List.getElem?_eq_getElem hj]at ey
   cases ey
   refine⟨Kp.set0,?_⟩
   refine⟨_,rfl,_,rfl,_,rfl,x,sg,rows,fo,fm,cs[j],n,rfl,hP.same s4,hs _ (List.getElem_mem hj),hn,?_⟩
   have z:=hR _ (Same.refl _)
   rw[q0u (List.getElem?_eq_getElem hj)]at z
   exact z
  ·exact k l' H4 s4 hl' (by rw[hl4,q1f cs (λc=>V.int (gpC (moF rows fo fm) c n))])
theorem z3n {f_sign_extras f_pair_cost f_more_cost:Addr} {fd_sign_extras fd_pair_cost fd_more_cost:FuncData} {p:Pm} (T:Txt K mg p w) (D_sign_extras:Dn K mg "sign_extras" q4w ["prices","signs"] f_sign_extras fd_sign_extras) (D_pair_cost:Dn K mg "pair_cost" q4d ["prices","one","other"] f_pair_cost fd_pair_cost) (G_pair_cost:FnOk P w K mg base CX0 1 f_pair_cost fd_pair_cost ["prices","one","other"] (q8d K p.C_Prices)) (D_more_cost:Dn K mg "more_cost" q3n ["prices"] f_more_cost fd_more_cost) (G_more_cost:FnOk P w K mg base CX0 2 f_more_cost fd_more_cost ["prices"] (spMore K p.C_Prices)):FnOk P w K mg base CX0 3 f_sign_extras fd_sign_extras ["prices","signs"] (spSgEx K p.C_Prices):=by
 refine D_sign_extras.fn.ok q6h (λvs H Q E h=>?_) (λcdv A outer s H vs Q E hr h=>?_)
 ·obtain⟨x,sg,rows,fo,fm,S,rfl,_⟩:=h
  rfl
 ·obtain⟨x,sg,rows,fo,fm,S,rfl,hP,hO,hS,k⟩:=h
  obtain⟨sig,sqr,_,_,_,_,_,dx,Pp,o,m,d,kvs,h1,h2,h3,h4,h5,h6⟩:=id hP
  refine⟨_,(q0c (q0n (i:=2) q6h.nd rfl (Or.inl rfl) pe_dnewK)
   (q0c (q1n PassesOwn.never rfl (z2o (q1d (pv 0) rfl)) (q0m (i:=3) q6h.nd rfl (Or.inr rfl)) (q0d (ps_dput (z3y hr) (pv 2) (pv 3) (q0i (z0b (K':=K) rfl rfl) rfl T.z_sum bo_sum (q0a (q2f (N:=["one","prices","other"]) rfl (CompSc.freeB (nt:=1) (ix:=[0,3]) rfl (by decide +kernel) (by decide +kernel) (by kernel_rfl) rfl (by kernel_rfl)) (z2o (pv 1)) (λ_ _ _ _ _ _ _=>(q0m (i:=0) (show(["one","prices","other"]:List Str).Nodup by decide +kernel) rfl (Or.inl rfl))) (λ_ _ _ _ _ _ _=>(q0p op_sub (q0h G_pair_cost (hr.mono (by decide)) rfl D_pair_cost.m D_pair_cost.fn.kp D_pair_cost.b .nil q0t (q0a (pv 1) (q0a (pv 0) (q0a (pv 2) q0b)))) (q0p q7w q0e (q0h G_more_cost (hr.mono (by decide)) rfl D_more_cost.m D_more_cost.fn.kp D_more_cost.b .nil q0t (q0a (pv 1) q0b)))))) q0b)) rfl)))
   (q0d (q0r (pv 2))))),?_⟩
  refine λq hq=>?_
  have s0:Same H (upd H q (.dK [])):=Same.upd hq
  refine⟨_,rfl,x,_,_,_,_,rfl,s0 _ _ h1,T.cl_Prices,T.n_Prices_signs,z4l,_,rfl,?_⟩
  refine for_txt (x:=sg) (λi σ H2=>∃(v3:Option V) (kv:List (Key×V)),σ=[some (.ref x),some (.str S),some (.ref q),v3]/\Same H H2/\H2 q=some (.dK kv)/\kv.length<=i/\∀j o,j<i->sg.cps.toList[j]? =some o->q7n kv (.inr ⟨#[o]⟩)=some (.int (q5t (λs=>pcF sg rows (q0s fo.2 fm.2 rows) s o-2*moF rows fo fm) S.cps.toList))) ⟨_,[],rfl,s0,upd_same,Nat.le_refl _,λj o hj=>absurd hj (Nat.not_lt_zero _)⟩ ?_ ?_
  ·rintro i c σ H2 hc ⟨v3,kv,rfl,s2,hd,hkl,hkv⟩
   have hcm:=cps_mem hc
   have hi:=cps_lt hc
   refine⟨_,rfl,_,rfl,λl hl=>?_⟩
   refine q4q S.cps.size (λj=>V.int (pcF sg rows (q0s fo.2 fm.2 rows) (S.cps.toList.getD j 0) c-2*moF rows fo fm)) hl (Nat.lt_of_le_of_lt hS (by decide)) (λj H4 s4 hj=>hj) (λH4 s4=>Nat.le_refl _) (λj y H4 H5 R s4 hj hy hR=>?_) λH4 s4 hl4=>?_
   ·obtain⟨rfl,e,he,rfl⟩:=hy
    obtain⟨i',j',f,k1,k2,k3,k4⟩:=pcF_at (u:=q0s fo.2 fm.2 rows) sqr (hO _ (cps_mem he)) hcm
    refine⟨Kp.set0,?_⟩
    refine⟨_,rfl,_,rfl,_,rfl,x,sg,rows,fo,fm,i',j',e,c,f,rfl,hP.same (s2.trans s4),k1,k2,k3,λH6 s6=>?_⟩
    refine⟨_,rfl,x,sg,rows,fo,fm,rfl,hP.same ((s2.trans s4).trans s6),_,_,rfl,rfl,.inl (by omega),_,_,rfl,rfl,?_⟩
    have z:=hR H6 s6
    rw[q0u (z6e he),k4]at z
    exact z
   ·have e1:(List.range S.cps.size).map (λj=>V.int (pcF sg rows (q0s fo.2 fm.2 rows) (S.cps.toList.getD j 0) c-2*moF rows fo fm))=(S.cps.toList.map λs=>pcF sg rows (q0s fo.2 fm.2 rows) s c-2*moF rows fo fm).map V.int:=by
     rw[List.map_map,←Array.length_toList]
     exact q1f (d:=0) S.cps.toList λs=>V.int (pcF sg rows (q0s fo.2 fm.2 rows) s c-2*moF rows fo fm)
    refine⟨l,_,rfl,SqL.of (by rw[hl4,e1]),_,rfl,_,rfl,q,_,rfl,DPut.k (k:=.inr ⟨#[c]⟩) (s4 _ _ hd) ?_,?_⟩
    ·exact Nat.lt_of_le_of_lt (show kv.length<=1000 by have:=sig.2.1;omega) (by decide)
    ·refine⟨_,_,rfl,Same.at (s2.trans s4) hq,upd_same,?_,λj o hj ho=>?_⟩
     ·have:=q5r kv (.inr ⟨#[c]⟩:Key) (V.int (q5t (λs=>pcF sg rows (q0s fo.2 fm.2 rows) s c-2*moF rows fo fm) S.cps.toList))
      exact Nat.le_trans this (Nat.succ_le_succ hkl)
     ·rw[z1n]
      by_cases z:o=c
      ·rw[if_pos (by rw[z]),z];rfl
      ·rw[if_neg (λy=>z (by injection y with y;injection y with y;simpa using y))]
       refine hkv j o ?_ ho
       have:j≠i:=λy=>by
        rw[y,z6e hc]at ho
        exact z (Option.some.inj ho).symm
       omega
  ·rintro σ H2 ⟨v3,kv,rfl,s2,hd,hkl,hkv⟩
   refine⟨_,rfl,k q H2 kv s2 hq hd λo ho=>?_⟩
   obtain⟨j,hj,e⟩:=List.getElem_of_mem ho
   exact hkv j o (by simpa using hj) (by rw[List.getElem?_eq_getElem hj,e])
end
section
variable{P:Program}{w:World}{K:PySem.W.Frag}{mg:Str->Option Value}{base:Heap}
theorem z1i {f_extras_beside f_sign_extras:Addr} {fd_extras_beside fd_sign_extras:FuncData} {p:Pm} (T:Txt K mg p w) (D_extras_beside:Dn K mg "extras_beside" q3v ["prices","signs","others"] f_extras_beside fd_extras_beside) (D_sign_extras:Dn K mg "sign_extras" q4w ["prices","signs"] f_sign_extras fd_sign_extras) (G_sign_extras:FnOk P w K mg base CX0 3 f_sign_extras fd_sign_extras ["prices","signs"] (spSgEx K p.C_Prices)):FnOk P w K mg base CX0 4 f_extras_beside fd_extras_beside ["prices","signs","others"] (spExB K p.C_Prices):=by
 refine D_extras_beside.fn.ok q7k (λvs H Q E h=>?_) (λcdv A outer s H vs Q E hr h=>?_)
 ·obtain⟨x,l,sg,rows,fo,fm,S,os,rfl,_⟩:=h
  rfl
 ·obtain⟨x,l,sg,rows,fo,fm,S,os,rfl,hP,hO,hS,hl,hn,hos,k⟩:=h
  refine⟨_,(q0c (q0n (i:=3) q7k.nd rfl (Or.inr rfl) (q0h G_sign_extras (hr.mono (by decide)) rfl D_sign_extras.m D_sign_extras.fn.kp D_sign_extras.b .nil q0t (q0a (pv 0) (q0a (pv 1) q0b))))
   (q0d (q0r (q2f (N:=["other","extras"]) rfl (CompSc.freeB (nt:=1) (ix:=[3]) rfl (by decide +kernel) (by decide +kernel) (by kernel_rfl) rfl (by kernel_rfl)) (q2s (pv 2)) (λ_ _ _ _ _ _ _=>(q0m (i:=0) (show(["other","extras"]:List Str).Nodup by decide +kernel) rfl (Or.inl rfl))) (λ_ _ _ _ _ _ _=>(q0i (z0b (K':=K) rfl rfl) rfl T.z_sum bo_sum (q0a (q2f (N:=["sign","extras"]) rfl (CompSc.freeB (nt:=1) (ix:=[1]) rfl (by decide +kernel) (by decide +kernel) (by kernel_rfl) rfl (by kernel_rfl)) (z2o (pv 0)) (λ_ _ _ _ _ _ _=>(q0m (i:=0) (show(["sign","extras"]:List Str).Nodup by decide +kernel) rfl (Or.inl rfl))) (λ_ _ _ _ _ _ _=>(pe_dget (z3y hr) (pv 1) (pv 0) (λ_ _=>rfl)))) q0b))))))),?_⟩
  refine⟨_,rfl,_,rfl,x,sg,rows,fo,fm,S,rfl,hP,hO,hS,λd H1 kvs s1 hd hdd hkv=>?_⟩
  have hl1:=s1 _ _ hl
  refine⟨_,rfl,l,rfl,⟨_,SqL.of hl1⟩,λl' hl'=>?_⟩
  refine q4q os.length (λj=>V.int (exC (pcF sg rows (q0s fo.2 fm.2 rows)) (moF rows fo fm) S.cps.toList (os.getD j ⟨#[]⟩).cps.toList)) hl' (Nat.lt_of_le_of_lt hn (by decide)) (λj H4 s4 hj=>?_) (λH4 s4=>?_) (λj y H4 H5 R s4 hj hy hR=>?_) λH4 s4 hl4=>?_
  ·exact⟨_,_,SqL.of (s4 _ _ hl1),by rw[List.getElem?_map,List.getElem?_eq_getElem hj];rfl⟩
  ·exact⟨_,SqL.of (s4 _ _ hl1),by rw[List.length_map];exact Nat.le_refl _⟩
  ·obtain⟨rfl,hy⟩:=hy
   have ey:=hy _ (SqL.of (s4 _ _ hl1))
   rw[List.getElem?_map,List.getElem?_eq_getElem hj]at ey
   cases ey
   rw[q0u (List.getElem?_eq_getElem hj)]at hR
   obtain⟨ho,hoz⟩:=hos _ (List.getElem_mem hj)
   generalize os[j]=o at ho hoz hR
   refine⟨Kp.set0,?_⟩
   refine⟨_,rfl,_,rfl,λl2 hl2=>?_⟩
   refine q4q o.cps.size (λi=>V.int (q5t (λs=>pcF sg rows (q0s fo.2 fm.2 rows) s (o.cps.toList.getD i 0)-2*moF rows fo fm) S.cps.toList)) hl2 (Nat.lt_of_le_of_lt hoz (by decide)) (λi H6 s6 hi=>hi) (λH6 s6=>Nat.le_refl _) (λi y H6 H7 R2 s6 hi hy hR2=>?_) λH6 s6 hl6=>?_
   ·obtain⟨rfl,c,hc,rfl⟩:=hy
    refine⟨Kp.set0,?_⟩
    refine⟨_,rfl,_,rfl,d,_,rfl,?_,hR2 _ (Same.refl _)⟩
    rw[q0u (z6e hc),←hkv c (ho c (cps_mem hc))]
    exact DGet.k (k:=.inr ⟨#[c]⟩) ((s4.trans s6) _ _ hdd)
   ·have e1:(List.range o.cps.size).map (λi=>V.int (q5t (λs=>pcF sg rows (q0s fo.2 fm.2 rows) s (o.cps.toList.getD i 0)-2*moF rows fo fm) S.cps.toList))=(o.cps.toList.map λc=>q5t (λs=>pcF sg rows (q0s fo.2 fm.2 rows) s c-2*moF rows fo fm) S.cps.toList).map V.int:=by
     rw[List.map_map,←Array.length_toList]
     exact q1f (d:=0) o.cps.toList λc=>V.int (q5t (λs=>pcF sg rows (q0s fo.2 fm.2 rows) s c-2*moF rows fo fm) S.cps.toList)
    exact⟨l2,_,rfl,SqL.of (by rw[hl6,e1]),hR _ s6⟩
  ·exact k l' H4 (s1.trans s4) (Same.free s1 hl') (by rw[hl4,q1f os (λo=>V.int (exC (pcF sg rows (q0s fo.2 fm.2 rows)) (moF rows fo fm) S.cps.toList o.cps.toList))])
theorem z5t {f_all_extras f_extras_beside:Addr} {fd_all_extras fd_extras_beside:FuncData} {p:Pm} (T:Txt K mg p w) (D_all_extras:Dn K mg "all_extras" q6f ["prices","ones","others"] f_all_extras fd_all_extras) (D_extras_beside:Dn K mg "extras_beside" q3v ["prices","signs","others"] f_extras_beside fd_extras_beside) (G_extras_beside:FnOk P w K mg base CX0 4 f_extras_beside fd_extras_beside ["prices","signs","others"] (spExB K p.C_Prices)):FnOk P w K mg base CX0 5 f_all_extras fd_all_extras ["prices","ones","others"] (spExA K p.C_Prices):=by
 refine D_all_extras.fn.ok q6t (λvs H Q E h=>?_) (λcdv A outer s H vs Q E hr h=>?_)
 ·obtain⟨x,l1,l2,sg,rows,fo,fm,ss,os,rfl,_⟩:=h
  rfl
 ·obtain⟨x,l1,l2,sg,rows,fo,fm,ss,os,rfl,hP,h1,hn1,hss,h2,hn2,hos,k⟩:=h
  refine⟨_,(q0c (q0n (i:=3) q6t.nd rfl (Or.inr rfl) pe_dnewK)
   (q0c (q1n PassesOwn.never rfl (q2s (pv 1)) (q0m (i:=4) q6t.nd rfl (Or.inl rfl)) (q0d (q2h (q0v (op_notIn_d (z3y hr)) (pv 4) (pv 3) (by with_unfolding_all rfl)) (q0d (ps_dput (z3y hr) (pv 3) (pv 4) (q0h G_extras_beside (hr.mono (by decide)) rfl D_extras_beside.m D_extras_beside.fn.kp D_extras_beside.b .nil q0t (q0a (pv 0) (q0a (pv 4) (q0a (pv 2) q0b)))) rfl)) q1a)))
   (q0d (q0r (q2f (N:=["signs","known"]) rfl (CompSc.freeB (nt:=1) (ix:=[3]) rfl (by decide +kernel) (by decide +kernel) (by kernel_rfl) rfl (by kernel_rfl)) (q2s (pv 1)) (λ_ _ _ _ _ _ _=>(q0m (i:=0) (show(["signs","known"]:List Str).Nodup by decide +kernel) rfl (Or.inl rfl))) (λ_ _ _ _ _ _ _=>(pe_dget (z3y hr) (pv 1) (pv 0) (λ_ _=>rfl)))))))),?_⟩
  refine λq hq=>?_
  have s0:Same H (upd H q (.dK [])):=Same.upd hq
  refine⟨_,rfl,l1,rfl,⟨_,SqL.of (s0 _ _ h1)⟩,?_⟩
  refine q5g (K:=K) (a:=l1) (xs:=ss.map V.str) (λi σ H2=>∃(v4:Option V) (kv:List (Key×V)),σ=[some (.ref x),some (.ref l1),some (.ref l2),some (.ref q),v4]/\Same H H2/\H2 q=some (.dK kv)/\kv.length<=i/\(∀j s,j<i->ss[j]? =some s->(q7n kv (.inr s)).isSome=true) ∧
   ∀s v,q7n kv (.inr s)=some v->∃r,v= .ref r/\H2 r=some (.lst (os.map λo=>V.int (exC (pcF sg rows (q0s fo.2 fm.2 rows)) (moF rows fo fm) s.cps.toList o.cps.toList)))) ⟨_,[],rfl,s0,upd_same,Nat.le_refl _,λj s hj=>absurd hj (Nat.not_lt_zero _),λs v z=>by cases z⟩ (λi σ H2 _ hh=>?_) ?_ ?_
  ·obtain⟨_,_,_,s2,_⟩:=hh
   exact SqL.of (s2 _ _ h1)
  ·rintro i y σ H2 hy ⟨v4,kv,rfl,s2,hd,hkl,hks,hkv⟩
   obtain⟨z,hz,rfl⟩:=q7m hy
   have hi:i<ss.length:=(List.getElem?_eq_some_iff.mp hz).1
   refine⟨_,rfl,_,rfl,q,_,rfl,DGet.k (k:=.inr z) hd,_,rfl,?_⟩
   cases hv:q7n kv (.inr z)with
   |some v =>
    refine z1x ⟨_,_,rfl,s2,hd,by omega,λj s hj hs=>?_,hkv⟩
    by_cases e:j=i
    ·subst e
     rw[hz]at hs
     cases hs
     rw[hv];rfl
    ·exact hks j s (by omega) hs
   |none =>
    refine z3x ⟨_,rfl,_,rfl,_,rfl,x,l2,sg,rows,fo,fm,z,os,rfl,hP.same s2,(hss z (List.mem_of_getElem? hz)).1,(hss z (List.mem_of_getElem? hz)).2,s2 _ _ h2,hn2,hos,λr H3 s3 hr hr3=>?_⟩
    have hd3:=s3 _ _ hd
    refine⟨_,rfl,_,rfl,q,_,rfl,DPut.k (k:=.inr z) hd3 (Nat.lt_of_le_of_lt (show kv.length<=1000 by omega) (by decide)),?_⟩
    have nq:∀{r:Addr} {xs:List V},H3 r=some (.lst xs)->r≠q:=λ{r xs} h e=>by rw[e,hd3]at h;cases h
    refine⟨_,_,rfl,Same.at (s2.trans s3) hq,upd_same,?_,λj s hj hs=>?_,λs v hsv=>?_⟩
    ·exact Nat.le_trans (q5r _ _ _) (Nat.succ_le_succ hkl)
    ·rw[z1n]
     by_cases e:s=z
     ·rw[if_pos (by rw[e])];rfl
     ·rw[if_neg (λy=>e (by injection y))]
      refine hks j s ?_ hs
      have:j≠i:=λy=>by
       rw[y,hz]at hs
       exact e (Option.some.inj hs).symm
      omega
    ·rw[z1n]at hsv
     by_cases e:s=z
     ·rw[if_pos (by rw[e])]at hsv
      cases hsv
      subst e
      exact⟨r,rfl,by rw[upd_ne (nq hr3)];exact hr3⟩
     ·rw[if_neg (λy=>e (by injection y))]at hsv
      obtain⟨r',e1,e2⟩:=hkv s v hsv
      have e3:=s3 _ _ e2
      exact⟨r',e1,by rw[upd_ne (nq e3)];exact e3⟩
  ·rintro σ H2 ⟨v4,kv,rfl,s2,hd,hkl,hks,hkv⟩
   rw[List.length_map]at hks
   have h12:=s2 _ _ h1
   refine⟨_,rfl,l1,rfl,⟨_,SqL.of h12⟩,λl' hl'=>?_⟩
   have at_:∀j,j<ss.length->∃r,((q7n kv (.inr (ss.getD j ⟨#[]⟩))).getD .non)= .ref r/\q7n kv (.inr (ss.getD j ⟨#[]⟩))=some (.ref r)/\H2 r=some (.lst (os.map λo=>V.int (exC (pcF sg rows (q0s fo.2 fm.2 rows)) (moF rows fo fm) (ss.getD j ⟨#[]⟩).cps.toList o.cps.toList))):=λj hj=>by
    have e:=hks j _ hj (List.getElem?_eq_getElem hj)
    rw[←q0u (d:=(⟨#[]⟩:Str)) (List.getElem?_eq_getElem hj)]at e
    obtain⟨v,hv⟩:=Option.isSome_iff_exists.mp e
    obtain⟨r,rfl,hr⟩:=hkv _ v hv
    exact⟨r,by rw[hv];rfl,hv,hr⟩
   refine q4q ss.length (λj=>(q7n kv (.inr (ss.getD j ⟨#[]⟩))).getD .non) hl' (Nat.lt_of_le_of_lt hn1 (by decide)) (λj H4 s4 hj=>?_) (λH4 s4=>?_) (λj y H4 H5 R s4 hj hy hR=>?_) λH4 s4 hl4=>?_
   ·exact⟨_,_,SqL.of (s4 _ _ h12),by rw[List.getElem?_map,List.getElem?_eq_getElem hj];rfl⟩
   ·exact⟨_,SqL.of (s4 _ _ h12),by rw[List.length_map];exact Nat.le_refl _⟩
   ·obtain⟨rfl,hy⟩:=hy
    have ey:=hy _ (SqL.of (s4 _ _ h12))
    rw[List.getElem?_map,List.getElem?_eq_getElem hj]at ey
    cases ey
    obtain⟨r,e1,e2,e3⟩:=at_ j hj
    rw[e1]at hR
    rw[q0u (List.getElem?_eq_getElem hj)]at e2
    refine⟨Kp.set0,?_⟩
    refine⟨_,rfl,_,rfl,q,.ref r,rfl,?_,hR _ (Same.refl _)⟩
    rw[←e2]
    exact DGet.k (k:=.inr ss[j]) (s4 _ _ hd)
   ·obtain⟨rs,g1,g2,g3⟩:=refs_of (P:=λj r=>H2 r=some (.lst (os.map λo=>V.int (exC (pcF sg rows (q0s fo.2 fm.2 rows)) (moF rows fo fm) (ss.getD j ⟨#[]⟩).cps.toList o.cps.toList)))) λj hj=>by
     obtain⟨r,e1,_,e3⟩:=at_ j hj
     exact⟨r,e1,e3⟩
    refine k l' H4 (s2.trans s4) (Same.free s2 hl') ⟨rs,g1,by rw[hl4,g2],λi r hr=>?_⟩
    rw[s4 _ _ (g3 i r hr),←q1f (d:=⟨#[]⟩) os]
theorem z3o {f_rests_ahead:Addr} {fd_rests_ahead:FuncData} {p:Pm} (T:Txt K mg p w) (D_rests_ahead:Dn K mg "rests_ahead" q4x ["extras","below"] f_rests_ahead fd_rests_ahead)  :FnOk P w K mg base CX0 1 f_rests_ahead fd_rests_ahead ["extras","below"] spAhead:=by
 refine D_rests_ahead.fn.ok q3c (λvs H Q E h=>?_) (λcdv A outer s H vs Q E hr h=>?_)
 ·obtain⟨l,b,n,f,g,rfl,_⟩:=h
  rfl
 ·obtain⟨l,b,n,f,g,rfl,hl,hb,hn,k⟩:=h
  refine⟨_,(q0c (q0n (i:=2) q3c.nd rfl (Or.inl rfl) (q4p (q0a q0e q0b)))
   (q0c (q1n PassesOwn.never rfl (pi_range3 rfl T.z_range (q0a (q0p op_sub (q0i (q0l) rfl T.z_len q0y (q0a (pv 0) q0b)) q0e) (q0a (pe_un z2d q0e) (q0a (pe_un z2d q0e) q0b)))) (q0m (i:=3) q3c.nd rfl (Or.inl rfl)) (q0c (q0n (i:=4) q3c.nd rfl (Or.inl rfl) (q0i (call_min2 rfl) rfl T.z_min bo_min (q0a (q0w q0o (pv 1) (pv 3) (λ_ _=>rfl)) (q0a (q0w q0o (pv 2) (pe_un z2d q0e) (λ_ _=>rfl)) q0b))))
   (q0c (q2h (q0v op_le (q0w q0o (pv 0) (pv 3) (λ_ _=>rfl)) q0e (q1e _)) (q0d (q0n (i:=4) q3c.nd rfl (Or.inl rfl) (q0i (call_min2 rfl) rfl T.z_min bo_min (q0a (q0p q1j (q0w q0o (pv 0) (pv 3) (λ_ _=>rfl)) (q0w q0o (pv 1) (q0p q1j (pv 3) q0e) (λ_ _=>rfl))) (q0a (pv 4) q0b))))) q1a)
   (q0d (q1r (z0i PySem.F.plainAttrs_list PySem.F.slot_list_append PySem.F.type_list_append q2v (pv 2) (q0a (pv 4) q0b)))))))
   (q0c (q1r (pe_bm0 PySem.F.plainAttrs_list PySem.F.slot_list_reverse PySem.F.type_list_reverse z4j (pv 2)))
   (q0d (q0r (pv 2)))))),?_⟩
  refine⟨by show 1<=sizeLine;decide,λq hq=>?_⟩
  have s0:Same H (upd H q (.lst [.int 0])):=Same.upd hq
  have e0:((List.range n).map λj=>V.int (f j)).length=n:=by rw[List.length_map,List.length_range]
  refine⟨_,rfl,_,_,rfl,.inl ⟨_,SqL.of (s0 _ _ hl),rfl⟩,_,_,rfl,rfl,_,rfl,_,rfl,_,_,rfl,⟨by omega,by omega,by omega,by omega⟩,?_⟩
  rw[e0,show((n:Int)-1- -1).toNat=n by omega]
  refine for_down (lo:=(n:Int)-1) (n:=n) (λi σ H2=>∃(v3 v4:Option V),σ=[some (.ref l),some (.ref b),some (.ref q),v3,v4]/\Same H H2/\H2 q=some (.lst ((List.range (i+1)).map λj=>V.int (rowR f g n j)))) ⟨_,_,rfl,s0,upd_same⟩ ?_ ?_
  ·rintro i σ H2 hi ⟨v3,v4,rfl,s2,h2⟩
   have hl2:=SqL.of (K:=K) (s2 _ _ hl)
   have hb2:=SqL.of (K:=K) (s2 _ _ hb)
   have e1:(n:Int)-1-(i:Int)=((n-1-i:Nat):Int):=by omega
   rw[e1]
   have la:atI ((List.range (i+1)).map λj=>V.int (rowR f g n j)) (-1)=some (.int (rowR f g n i)):=by rw[q5j];exact z0c _ _
   have fin:∀{σ':St} {v4':Int},v4'=rowR f g n (i+1)->σ'=[some (.ref l),some (.ref b),some (.ref q),some (.int ((n-1-i:Nat):Int)),some (.int v4')]->∃(v3 v4:Option V),σ'=[some (.ref l),some (.ref b),some (.ref q),v3,v4]/\Same H (upd H2 q (.lst ((List.range (i+1)).map (λj=>V.int (rowR f g n j))++[V.int v4'])))/\upd H2 q (.lst ((List.range (i+1)).map (λj=>V.int (rowR f g n j))++[V.int v4'])) q=some (.lst ((List.range (i+1+1)).map λj=>V.int (rowR f g n j))):=λ{σ' v4'} e1 e2=>by
    refine⟨_,_,e2,Same.at s2 hq,?_⟩
    rw[upd_same,e1,q5j (n:=i+1)]
   have lt:((List.range (i+1)).map λj=>V.int (rowR f g n j)).length<sizeLine:=by
    rw[List.length_map,List.length_range]
    exact Nat.lt_of_le_of_lt (show i+1<=1000 by omega) (by decide)
   have er:rowR f g n (i+1)=z0e (f (n-1-i)) (g (n-1-i)) (g (n-i)) (rowR f g n i):=rfl
   refine⟨_,rfl,_,rfl,b,_,_,.int (g (n-1-i)),rfl,rfl,hb2,q0q (q1k (by omega)),_,rfl,_,rfl,q,_,_,.int (rowR f g n i),rfl,rfl,SqL.of h2,la,_,_,rfl,?_⟩
   refine⟨_,rfl,_,rfl,l,_,_,.int (f (n-1-i)),rfl,rfl,hl2,q0q (q1k (by omega)),_,_,rfl,rfl,_,rfl,?_⟩
   refine q2n (λh0=>?_) (λh0=>?_)
   ·refine⟨_,rfl,_,rfl,l,_,_,.int (f (n-1-i)),rfl,rfl,hl2,q0q (q1k (by omega)),_,rfl,_,rfl,_,_,rfl,rfl,b,_,_,.int (g (n-i)),rfl,rfl,hb2,(by rw[show((n-1-i:Nat):Int)+1=((n-i:Nat):Int) by omega];exact q0q (q1k (by omega))),_,_,rfl,rfl,_,rfl,_,_,rfl,?_⟩
    refine⟨_,rfl,.inl ⟨rfl,_,SqL.of h2⟩,_,rfl,q,_,_,rfl,rfl,h2,lt,fin ?_ rfl⟩
    rw[er]
    unfold z0e
    rw[if_pos h0]
    omega
   ·refine⟨_,rfl,.inl ⟨rfl,_,SqL.of h2⟩,_,rfl,q,_,_,rfl,rfl,h2,lt,fin ?_ rfl⟩
    rw[er]
    unfold z0e
    rw[if_neg h0]
    omega
  ·rintro σ H2 ⟨v3,v4,rfl,s2,h2⟩
   refine⟨_,rfl,.inl ⟨rfl,_,SqL.of h2⟩,q,_,rfl,rfl,h2,?_⟩
   refine⟨_,rfl,k q _ (Same.at s2 hq) hq ?_⟩
   rw[upd_same,rev_range]
theorem z5n {f_join_rests f_rests_ahead:Addr} {fd_join_rests fd_rests_ahead:FuncData} {p:Pm} (T:Txt K mg p w) (D_join_rests:Dn K mg "join_rests" q6b ["extras","many"] f_join_rests fd_join_rests) (D_rests_ahead:Dn K mg "rests_ahead" q4x ["extras","below"] f_rests_ahead fd_rests_ahead) (G_rests_ahead:FnOk P w K mg base CX0 1 f_rests_ahead fd_rests_ahead ["extras","below"] spAhead):FnOk P w K mg base CX0 2 f_join_rests fd_join_rests ["extras","many"] spJoinR:=by
 refine D_join_rests.fn.ok q6q (λvs H Q E h=>?_) (λcdv A outer s H vs Q E hr h=>?_)
 ·obtain⟨l,m,n,E,rfl,_⟩:=h
  rfl
 ·obtain⟨l,m,n,E,rfl,⟨rs,hrs,hl,hrow⟩,hm,hn,k⟩:=h
  refine⟨_,(q0c (q0n (i:=2) q6q.nd rfl (Or.inl rfl) (q4p (q0a (q0p op_rep (q4p (q0a q0e q0b)) (q0p q1j (pv 1) q0e)) q0b)))
   (q0c (q1n PassesOwn.never rfl (pi_rev rfl T.z_reversed (q0a (pv 0) q0b)) (q0m (i:=3) q6q.nd rfl (Or.inl rfl)) (q0d (q1r (z0i PySem.F.plainAttrs_list PySem.F.slot_list_append PySem.F.type_list_append q2v (pv 2) (q0a (q0h G_rests_ahead (hr.mono (by decide)) rfl D_rests_ahead.m D_rests_ahead.fn.kp D_rests_ahead.b .nil q0t (q0a (pv 3) (q0a (q0w q0o (pv 2) (pe_un z2d q0e) (λ_ _=>rfl)) q0b))) q0b)))))
   (q0c (q1r (pe_bm0 PySem.F.plainAttrs_list PySem.F.slot_list_reverse PySem.F.type_list_reverse z4j (pv 2)))
   (q0d (q0r (pv 2)))))),?_⟩
  refine⟨by show 1<=sizeLine;decide,λq0 hq0=>?_⟩
  have s0:Same H (upd H q0 (.lst [.int 0])):=Same.upd hq0
  refine⟨_,rfl,_,_,rfl,rfl,q0,_,_,rfl,rfl,upd_same,by omega,by omega,(by show 1*_<=sizeLine;rw[Nat.one_mul];exact Nat.le_trans (show _<=1001 by omega) (by decide)),λp1 hp1=>⟨by show 1<=sizeLine;decide,λq hq=>?_⟩⟩
  rw[show((n:Int)+1).toNat=n+1 by omega,z1u]at hq ⊢
  have s1:Same H (upd (upd H q0 (.lst [.int 0])) p1 (.lst (List.replicate (n+1) (V.int 0)))):=s0.trans (Same.upd hp1)
  have hp2:upd (upd H q0 (.lst [.int 0])) p1 (.lst (List.replicate (n+1) (V.int 0))) p1=some (.lst ((List.range (n+1)).map λj=>V.int (resK E m n 0 j))):=by
   rw[upd_same]
   congr 2
   exact(List.eq_replicate_iff.mpr ⟨by simp,λb hb=>by obtain⟨j,_,rfl⟩:=List.mem_map.mp hb;rfl⟩).symm
  generalize upd (upd H q0 (.lst [.int 0])) p1 (.lst (List.replicate (n+1) (V.int 0)))=H1 at s1 hp2 hq ⊢
  have nq1:p1≠q:=λz=>by rw[z,hq]at hp2;cases hp2
  have s2:=s1.trans (Same.upd (o:=.lst [V.ref p1]) hq)
  refine⟨_,rfl,l,_,rfl,SqL.of (s2 _ _ hl),?_⟩
  refine for_rev (K:=K) (a:=l) (xs:=rs.map V.ref) (λi σ H2=>∃(v3:Option V) (qs:List Addr),σ=[some (.ref l),some (.int (n:Int)),some (.ref q),v3]/\Same H H2/\H2 q=some (.lst (qs.map V.ref))/\qs.length=i+1/\q∉qs/\∀j r,qs[j]? =some r->H2 r=some (.lst ((List.range (n+1)).map λa=>V.int (resK E m n j a)))) ⟨_,[p1],rfl,s2,upd_same,rfl,λz=>nq1 (List.mem_singleton.mp z).symm,λj r hr=>?_⟩ (λi σ H2 _ hh=>?_) ?_ ?_
  ·have ej:j=0:=by
    have:=(List.getElem?_eq_some_iff.mp hr).1
    have:j<1:=this
    omega
   subst ej
   cases hr
   rw[upd_ne nq1]
   exact hp2
  ·obtain⟨_,_,_,s3,_⟩:=hh
   exact SqL.of (s3 _ _ hl)
  ·rintro i y σ H2 hi hy ⟨v3,qs,rfl,s3,h3,hql,hnq,hqs⟩
   rw[List.length_map,hrs]at hi hy
   rw[List.getElem?_map]at hy
   obtain⟨r,hr,rfl⟩:=Option.map_eq_some_iff.mp hy
   obtain⟨qs',ql,rfl⟩:∃qs' ql,qs=qs'++[ql]:=by
    rcases List.eq_nil_or_concat qs with h|⟨a,b,h⟩
    ·rw[h]at hql;cases hql
    ·exact⟨a,b,by rw[h,List.concat_eq_append]⟩
   have hq':qs'.length=i:=by rw[List.length_append]at hql;exact Nat.succ.inj hql
   have hql3:=hqs i ql (by rw[List.getElem?_append_right (by omega),hq',Nat.sub_self];rfl)
   refine⟨_,rfl,.inl ⟨rfl,_,SqL.of h3⟩,_,rfl,_,rfl,_,rfl,q,_,_,.ref ql,rfl,rfl,SqL.of h3,(by rw[List.map_append];exact z0c _ _),r,ql,n,E (m-1-i),resK E m n i,rfl,s3 _ _ (hrow _ _ hr),hql3,hn,λl' H3 s4 hl' hl3=>?_⟩
   have h4:=s4 _ _ h3
   refine⟨q,_,_,rfl,rfl,h4,?_,?_⟩
   ·rw[List.length_map,hql]
    exact Nat.lt_of_le_of_lt (show i+1<=1000 by omega) (by decide)
   ·have nl:l'≠q:=λz=>by rw[z,h3]at hl';cases hl'
    refine⟨_,(qs'++[ql])++[l'],rfl,Same.at (s3.trans s4) (Same.free s1 hq),?_,by rw[List.length_append,hql];rfl,λz=>?_,λj r' hr'=>?_⟩
    ·rw[upd_same,List.map_append (l₁:=qs'++[ql])];rfl
    ·rcases List.mem_append.mp z with z|z
     ·exact hnq z
     ·exact nl (List.mem_singleton.mp z).symm
    ·by_cases hj:j<(qs'++[ql]).length
     ·rw[List.getElem?_append_left hj]at hr'
      have nr:r'≠q:=λz=>hnq (z▸List.mem_of_getElem? hr')
      rw[upd_ne nr]
      exact s4 _ _ (hqs j r' hr')
     ·rw[List.getElem?_append_right (by omega)]at hr'
      have ej:j=i+1:=by
       have:=(List.getElem?_eq_some_iff.mp hr').1
       have:j-(qs'++[ql]).length<1:=this
       omega
      subst ej
      rw[hql,Nat.sub_self]at hr'
      cases hr'
      rw[upd_ne nl]
      exact hl3
  ·rintro σ H2 ⟨v3,qs,rfl,s3,h3,hql,hnq,hqs⟩
   rw[List.length_map,hrs]at hql
   refine⟨_,rfl,.inl ⟨rfl,_,SqL.of h3⟩,q,_,rfl,rfl,h3,?_⟩
   refine⟨_,rfl,k q _ (Same.at s3 (Same.free s1 hq)) (Same.free s1 hq) ⟨qs.reverse,by rw[List.length_reverse,hql],by rw[upd_same,List.map_reverse],λi r hr=>?_⟩⟩
   have hi:i<qs.length:=by have:=(List.getElem?_eq_some_iff.mp hr).1;rwa [List.length_reverse]at this
   rw[List.getElem?_reverse hi,show qs.length-1-i=m-i by omega]at hr
   have nr:r≠q:=λz=>hnq (z▸List.mem_of_getElem? hr)
   rw[upd_ne nr]
   exact hqs _ r hr
end
section
variable{P:Program}{w:World}{K:PySem.W.Frag}{mg:Str->Option Value}{base:Heap}
theorem q8y {f_Joining___init__ f_check_block_rows f_columns_of f_costs_by_gaps f_signs_of f_all_extras f_join_rests:Addr} {fd_Joining___init__ fd_check_block_rows fd_columns_of fd_costs_by_gaps fd_signs_of fd_all_extras fd_join_rests:FuncData} {p:Pm} (T:Txt K mg p w) (D_Joining___init__:Dm K "__init__" "Joining.__init__" q1c ["self","prices","one","other"] f_Joining___init__ fd_Joining___init__) (D_check_block_rows:Dn K mg "check_block_rows" q2o ["prices","rows"] f_check_block_rows fd_check_block_rows) (G_check_block_rows:FnOk P w K mg base (CXs P w) 4 f_check_block_rows fd_check_block_rows ["prices","rows"] (z2i K p.C_Prices p.C_NoSign)) (D_columns_of:Dn K mg "columns_of" q3p ["rows"] f_columns_of fd_columns_of) (G_columns_of:FnOk P w K mg base CX0 3 f_columns_of fd_columns_of ["rows"] (q9e K)) (D_costs_by_gaps:Dn K mg "costs_by_gaps" q3w ["prices","columns","many"] f_costs_by_gaps fd_costs_by_gaps) (G_costs_by_gaps:FnOk P w K mg base CX0 4 f_costs_by_gaps fd_costs_by_gaps ["prices","columns","many"] (spGapCs K p.C_Prices)) (D_signs_of:Dn K mg "signs_of" q5i ["things"] f_signs_of fd_signs_of) (G_signs_of:FnOk P w K mg base CX0 1 f_signs_of fd_signs_of ["things"] q9d) (D_all_extras:Dn K mg "all_extras" q6f ["prices","ones","others"] f_all_extras fd_all_extras) (G_all_extras:FnOk P w K mg base CX0 5 f_all_extras fd_all_extras ["prices","ones","others"] (spExA K p.C_Prices)) (D_join_rests:Dn K mg "join_rests" q6b ["extras","many"] f_join_rests fd_join_rests) (G_join_rests:FnOk P w K mg base CX0 2 f_join_rests fd_join_rests ["extras","many"] spJoinR):FnOk P w K mg base (CXs P w) 6 f_Joining___init__ fd_Joining___init__ ["self","prices","one","other"] (spJoinI K p.C_Prices p.C_Block p.C_Joining p.C_NoSign):=by
 refine D_Joining___init__.fn.okX q3m (λvs H Q E h=>?_) (λcdv A outer s H vs Q E hr h=>?_)
 ·obtain⟨jn,dx,x,o1,o2,sg,rows,fo,fm,r1,r2,rfl,_⟩:=h
  rfl
 ·obtain⟨jn,dx,x,o1,o2,sg,rows,fo,fm,r1,r2,rfl,hj,hP0,hB1,hB2,hS1,hS2,hb1,hb2,kq,ke⟩:=h
  have hP:=hP0.woI hj
  have hB1':=hB1.woI hj
  have hB2':=hB2.woI hj
  obtain⟨d1,q1,ho1,hq1⟩:=hB1'
  obtain⟨d2,q2,ho2,hq2⟩:=hB2'
  have hl1:=q2x hb1
  have hl2:=q2x hb2
  obtain⟨hne1,hw1⟩:=q2j.mp hl1
  obtain⟨hne2,hw2⟩:=q2j.mp hl2
  have hS12:SmR (r1++r2):=⟨by rw[List.length_append];have:=hS1.1;have:=hS2.1;omega,λy hy=>(List.mem_append.mp hy).elim (λz=>hS1.sm.row y z) λz=>hS2.sm.row y z⟩
  refine⟨_,(q0c (q1r (q0h G_check_block_rows (hr.mono (by decide)) rfl D_check_block_rows.m D_check_block_rows.fn.kp D_check_block_rows.b .nil (Lets.passes q5q) (q0a (pv 1) (q0a (q0p op_catT (q1d (pv 2) rfl) (q1d (pv 3) rfl)) q0b))))
   (q0c (q4b (pv 0) (q0h G_columns_of (hr.mono (by decide)) rfl D_columns_of.m D_columns_of.fn.kp D_columns_of.b .nil q0t (q0a (q1d (pv 2) rfl) q0b)) rfl)
   (q0c (q4b (pv 0) (q0h G_columns_of (hr.mono (by decide)) rfl D_columns_of.m D_columns_of.fn.kp D_columns_of.b .nil q0t (q0a (q1d (pv 3) rfl) q0b)) rfl)
   (q0c (q4b (pv 0) (q0p op_repS (q3y (v:=.str (Str.ofString "-")) rfl T.g_GAP ⟨_,rfl⟩) (q0i (q0l) rfl T.z_len q0y (q0a (q1d (pv 2) rfl) q0b))) rfl)
   (q0c (q4b (pv 0) (q0p op_repS (q3y (v:=.str (Str.ofString "-")) rfl T.g_GAP ⟨_,rfl⟩) (q0i (q0l) rfl T.z_len q0y (q0a (q1d (pv 3) rfl) q0b))) rfl)
   (q0c (q4b (pv 0) (q0h G_costs_by_gaps (hr.mono (by decide)) rfl D_costs_by_gaps.m D_costs_by_gaps.fn.kp D_costs_by_gaps.b .nil q0t (q0a (pv 1) (q0a (q1d (pv 0) rfl) (q0a (q0i (q0l) rfl T.z_len q0y (q0a (q1d (pv 3) rfl) q0b)) q0b)))) rfl)
   (q0c (q4b (pv 0) (q0h G_costs_by_gaps (hr.mono (by decide)) rfl D_costs_by_gaps.m D_costs_by_gaps.fn.kp D_costs_by_gaps.b .nil q0t (q0a (pv 1) (q0a (q1d (pv 0) rfl) (q0a (q0i (q0l) rfl T.z_len q0y (q0a (q1d (pv 2) rfl) q0b)) q0b)))) rfl)
   (q0c (q6l (i:=4) (N:=["column"]) q3m.nd rfl (Or.inl rfl) rfl (λ_=>⟨[],CompSc.plain (by decide +kernel) rfl (by decide +kernel) (by decide +kernel)⟩) (q2s (q1d (pv 0) rfl)) (λ_ _ _ _ _ _ _=>(q0m (i:=0) (show(["column"]:List Str).Nodup by decide +kernel) rfl (Or.inl rfl))) (λ_ _ _ _ _ _ _=>(q0h G_signs_of (hr.mono (by decide)) rfl D_signs_of.m D_signs_of.fn.kp D_signs_of.b .nil q0t (q0a (pv 0) q0b))))
   (q0c (q6l (i:=5) (N:=["column"]) q3m.nd rfl (Or.inl rfl) rfl (λ_=>⟨[],CompSc.plain (by decide +kernel) rfl (by decide +kernel) (by decide +kernel)⟩) (q2s (q1d (pv 0) rfl)) (λ_ _ _ _ _ _ _=>(q0m (i:=0) (show(["column"]:List Str).Nodup by decide +kernel) rfl (Or.inl rfl))) (λ_ _ _ _ _ _ _=>(q0h G_signs_of (hr.mono (by decide)) rfl D_signs_of.m D_signs_of.fn.kp D_signs_of.b .nil q0t (q0a (pv 0) q0b))))
   (q0c (q4b (pv 0) (q0h G_all_extras (hr.mono (by decide)) rfl D_all_extras.m D_all_extras.fn.kp D_all_extras.b .nil q0t (q0a (pv 1) (q0a (pv 4) (q0a (pv 5) q0b)))) rfl)
   (q0d (q4b (pv 0) (q0h G_join_rests (hr.mono (by decide)) rfl D_join_rests.m D_join_rests.fn.kp D_join_rests.b .nil q0t (q0a (q1d (pv 0) rfl) (q0a (q0i (q0l) rfl T.z_len q0y (q0a (q1d (pv 0) rfl) q0b)) q0b))) rfl)))))))))))),?_⟩
  refine⟨_,rfl,_,rfl,o1,_,d1,_,_,rfl,Wo.sub _ _ ho1,T.cl_Block,T.n_Block_rows,q6i,_,rfl,o2,_,d2,_,_,rfl,Wo.sub _ _ ho2,T.cl_Block,T.n_Block_rows,q6i,q1,q2,_,_,rfl,rfl,Same.tup Wo.sub hq1,Same.tup Wo.sub hq2,λz=>hne1 (List.map_eq_nil_iff.mp z),?_,λz=>absurd (List.map_eq_nil_iff.mp z) hne2,λ_ pt hpt=>?_⟩
  ·rw[List.length_map,List.length_map]
   exact Nat.le_trans (show _<=100 by have:=hS1.1;have:=hS2.1;omega) (by decide)
  have s0:Same H (upd H pt (.tup (r1.map V.str++r2.map V.str))):=Same.upd hpt
  refine⟨x,sg,rows,fo,fm,.ref pt,r1++r2,rfl,hP0.same s0,⟨pt,rfl,.inr (SqT.of (by rw[upd_same,List.map_append]))⟩,hS12,λhO H1 s1=>?_,λi j hB dx' H1 s1 hd=>ke i j hB dx' H1 (λa u ha _=>s1 _ _ (s0 _ _ ha)) hd⟩
  have w1:Same (Wo jn H) (Wo jn H1):=Wo.same (s0.trans s1)
  have j1:=s1 _ _ (s0 _ _ hj)
  refine⟨_,rfl,o1,_,d1,_,_,rfl,Wo.sub _ _ (w1 _ _ ho1),T.cl_Block,T.n_Block_rows,q6i,.ref q1,r1,rfl,⟨q1,rfl,.inr (Same.tup (w1.trans Wo.sub) hq1)⟩,hS1.sm,hl1,λl1 H2 s2 _ hl1'=>⟨_,rfl,jn,_,dx,_,rfl,s2 _ _ j1,T.cl_Joining,T.n_Joining_ones,by show 0<1000;decide,?_⟩⟩
  have ni:∀{H:Hp} {C d:Addr} {fs:List (Str×V)} {l:Addr} {xs:List V},H jn=some (.ins C d fs)->H l=some (.lst xs)->l≠jn:=λh1 h2 z=>by rw[z,h1]at h2;cases h2
  have eW:Wo jn (upd H2 jn (.ins p.C_Joining dx (y1 l1)))=Wo jn H2:=Wo.set
  have j2:(upd H2 jn (.ins p.C_Joining dx (y1 l1))) jn=some (.ins p.C_Joining dx (y1 l1)):=upd_same
  generalize upd H2 jn (.ins p.C_Joining dx (y1 l1))=H3 at eW j2 ⊢
  have w2:Same (Wo jn H) (Wo jn H3):=by rw[eW];exact w1.trans (Wo.same s2)
  have a1:Wo jn H3 l1=some (.lst ((cols r1 (wid r1)).map V.str)):=by rw[eW];exact Wo.in (ni (s2 _ _ j1) hl1') hl1'
  clear eW
  refine⟨_,rfl,o2,_,d2,_,_,rfl,Wo.sub _ _ (w2 _ _ ho2),T.cl_Block,T.n_Block_rows,q6i,.ref q2,r2,rfl,⟨q2,rfl,.inr (Same.tup (w2.trans Wo.sub) hq2)⟩,hS2.sm,hl2,λl2 H4 s4 _ hl2'=>⟨_,rfl,jn,_,dx,_,rfl,s4 _ _ j2,T.cl_Joining,T.n_Joining_others,Nat.lt_of_le_of_lt (q0j (Nat.zero_le 0)) (by decide),?_⟩⟩
  have w3:Same (Wo jn H) (Wo jn (upd H4 jn (.ins p.C_Joining dx (y2 l1 l2)))):=by rw[Wo.set];exact w2.trans (Wo.same s4)
  have j3:(upd H4 jn (.ins p.C_Joining dx (y2 l1 l2))) jn=some (.ins p.C_Joining dx (y2 l1 l2)):=upd_same
  have b1:Wo jn (upd H4 jn (.ins p.C_Joining dx (y2 l1 l2))) l2=some (.lst ((cols r2 (wid r2)).map V.str)):=by rw[Wo.set];exact Wo.in (ni (s4 _ _ j2) hl2') hl2'
  have a1':Wo jn (upd H4 jn (.ins p.C_Joining dx (y2 l1 l2))) l1=some (.lst ((cols r1 (wid r1)).map V.str)):=by rw[Wo.set];exact Wo.same s4 _ _ a1
  generalize upd H4 jn (.ins p.C_Joining dx (y2 l1 l2))=H5 at w3 j3 b1 a1' ⊢
  refine⟨_,rfl,o1,_,d1,_,_,rfl,Wo.sub _ _ (w3 _ _ ho1),T.cl_Block,T.n_Block_rows,q6i,_,_,rfl,.inr ⟨_,Same.tup (w3.trans Wo.sub) hq1,rfl⟩,_,_,rfl,rfl,?_,?_,by decide,?_,_,rfl,jn,_,dx,_,rfl,j3,T.cl_Joining,T.n_Joining_one_gaps,Nat.lt_of_le_of_lt (q0j (q0j (Nat.zero_le 0))) (by decide),?_⟩
  ·rw[List.length_map];have:=hS1.1;omega
  ·rw[List.length_map];have:=hS1.1;omega
  ·rw[List.length_map]
   show((r1.length:Nat):Int).toNat*1<=sizeLine
   exact Nat.le_trans (show _<=1000 by have:=hS1.1;omega) (by decide)
  rw[List.length_map,rep_gapS]
  have w4:Same (Wo jn H) (Wo jn (upd H5 jn (.ins p.C_Joining dx (y3 l1 l2 (q2d r1.length))))):=by rw[Wo.set];exact w3
  have j4:(upd H5 jn (.ins p.C_Joining dx (y3 l1 l2 (q2d r1.length)))) jn=some (.ins p.C_Joining dx (y3 l1 l2 (q2d r1.length))):=upd_same
  have a1'':Wo jn (upd H5 jn (.ins p.C_Joining dx (y3 l1 l2 (q2d r1.length)))) l1=some (.lst ((cols r1 (wid r1)).map V.str)):=by rw[Wo.set];exact a1'
  have b1':Wo jn (upd H5 jn (.ins p.C_Joining dx (y3 l1 l2 (q2d r1.length)))) l2=some (.lst ((cols r2 (wid r2)).map V.str)):=by rw[Wo.set];exact b1
  generalize upd H5 jn (.ins p.C_Joining dx (y3 l1 l2 (q2d r1.length)))=H6 at w4 j4 a1'' b1' ⊢
  refine⟨_,rfl,o2,_,d2,_,_,rfl,Wo.sub _ _ (w4 _ _ ho2),T.cl_Block,T.n_Block_rows,q6i,_,_,rfl,.inr ⟨_,Same.tup (w4.trans Wo.sub) hq2,rfl⟩,_,_,rfl,rfl,?_,?_,by decide,?_,_,rfl,jn,_,dx,_,rfl,j4,T.cl_Joining,T.n_Joining_other_gaps,Nat.lt_of_le_of_lt (q0j (q0j (q0j (Nat.zero_le 0)))) (by decide),?_⟩
  ·rw[List.length_map];have:=hS2.1;omega
  ·rw[List.length_map];have:=hS2.1;omega
  ·rw[List.length_map]
   show((r2.length:Nat):Int).toNat*1<=sizeLine
   exact Nat.le_trans (show _<=1000 by have:=hS2.1;omega) (by decide)
  rw[List.length_map,rep_gapS]
  have w5:Same (Wo jn H) (Wo jn (upd H6 jn (.ins p.C_Joining dx (y4 l1 l2 (q2d r1.length) (q2d r2.length))))):=by rw[Wo.set];exact w4
  have j5:(upd H6 jn (.ins p.C_Joining dx (y4 l1 l2 (q2d r1.length) (q2d r2.length)))) jn=some (.ins p.C_Joining dx (y4 l1 l2 (q2d r1.length) (q2d r2.length))):=upd_same
  have a1''':Wo jn (upd H6 jn (.ins p.C_Joining dx (y4 l1 l2 (q2d r1.length) (q2d r2.length)))) l1=some (.lst ((cols r1 (wid r1)).map V.str)):=by rw[Wo.set];exact a1''
  have b1'':Wo jn (upd H6 jn (.ins p.C_Joining dx (y4 l1 l2 (q2d r1.length) (q2d r2.length)))) l2=some (.lst ((cols r2 (wid r2)).map V.str)):=by rw[Wo.set];exact b1'
  generalize upd H6 jn (.ins p.C_Joining dx (y4 l1 l2 (q2d r1.length) (q2d r2.length)))=H7 at w5 j5 a1''' b1'' ⊢
  have cA:=z0u hb1 λr hr=>hO r (List.mem_append_left _ hr)
  have cB:=z0u hb2 λr hr=>hO r (List.mem_append_right _ hr)
  have zA:∀c∈(cols r1 (wid r1)),c.cps.size<=1000:=λc hc=>by rw[cA.size c hc];have:=hS1.1;omega
  have zB:∀c∈(cols r2 (wid r2)),c.cps.size<=1000:=λc hc=>by rw[cB.size c hc];have:=hS2.1;omega
  have nA:(cols r1 (wid r1)).length<=1000:=by rw[q1v];have:=hS1.wid hl1;omega
  have nB:(cols r2 (wid r2)).length<=1000:=by rw[q1v];have:=hS2.wid hl2;omega
  have a5:=a1'''
  have b5:=b1''
  refine⟨_,rfl,_,rfl,jn,_,dx,_,_,rfl,j5,T.cl_Joining,T.n_Joining_ones,(lkN (lkN (lkN lk0 (by decide +kernel)) (by decide +kernel)) (by decide +kernel)),_,rfl,o2,_,d2,_,_,rfl,Wo.sub _ _ (w5 _ _ ho2),T.cl_Block,T.n_Block_rows,q6i,_,_,rfl,.inr ⟨_,Same.tup (w5.trans Wo.sub) hq2,rfl⟩,x,l1,sg,rows,fo,fm,(cols r1 (wid r1)),r2.length,(by rw[List.length_map];rfl),(hP.same w5).same Wo.sub,Wo.sub _ _ a5,nA,zA,(by have:=hS2.1;omega),λla H8 s8 _ hla=>⟨_,rfl,jn,_,dx,_,rfl,s8 _ _ j5,T.cl_Joining,T.n_Joining_by_a,Nat.lt_of_le_of_lt (q0j (q0j (q0j (q0j (Nat.zero_le 0))))) (by decide),?_⟩⟩
  have eW:Wo jn (upd H8 jn (.ins p.C_Joining dx (y5 l1 l2 (q2d r1.length) (q2d r2.length) la)))=Wo jn H8:=Wo.set
  have j6:(upd H8 jn (.ins p.C_Joining dx (y5 l1 l2 (q2d r1.length) (q2d r2.length) la))) jn=some (.ins p.C_Joining dx (y5 l1 l2 (q2d r1.length) (q2d r2.length) la)):=upd_same
  generalize upd H8 jn (.ins p.C_Joining dx (y5 l1 l2 (q2d r1.length) (q2d r2.length) la))=H9 at eW j6 ⊢
  have w6:Same (Wo jn H) (Wo jn H9):=by rw[eW];exact w5.trans (Wo.same s8)
  have a6:Wo jn H9 l1=some (.lst ((cols r1 (wid r1)).map V.str)):=by rw[eW];exact Wo.same s8 _ _ a5
  have b6:Wo jn H9 l2=some (.lst ((cols r2 (wid r2)).map V.str)):=by rw[eW];exact Wo.same s8 _ _ b5
  have ga6:Wo jn H9 la=some (.lst ((cols r1 (wid r1)).map λc=>V.int (gpC (moF rows fo fm) c r2.length))):=by rw[eW];exact Wo.in (ni (s8 _ _ j5) hla) hla
  clear eW
  refine⟨_,rfl,_,rfl,jn,_,dx,_,_,rfl,j6,T.cl_Joining,T.n_Joining_others,(lkN (lkN (lkN lk0 (by decide +kernel)) (by decide +kernel)) (by decide +kernel)),_,rfl,o1,_,d1,_,_,rfl,Wo.sub _ _ (w6 _ _ ho1),T.cl_Block,T.n_Block_rows,q6i,_,_,rfl,.inr ⟨_,Same.tup (w6.trans Wo.sub) hq1,rfl⟩,x,l2,sg,rows,fo,fm,(cols r2 (wid r2)),r1.length,(by rw[List.length_map];rfl),(hP.same w6).same Wo.sub,Wo.sub _ _ b6,nB,zB,(by have:=hS1.1;omega),λlb H10 s10 _ hlb=>⟨_,rfl,jn,_,dx,_,rfl,s10 _ _ j6,T.cl_Joining,T.n_Joining_by_b,Nat.lt_of_le_of_lt (q0j (q0j (q0j (q0j (q0j (Nat.zero_le 0)))))) (by decide),?_⟩⟩
  have eW:Wo jn (upd H10 jn (.ins p.C_Joining dx (y6 l1 l2 (q2d r1.length) (q2d r2.length) la lb)))=Wo jn H10:=Wo.set
  have j7:(upd H10 jn (.ins p.C_Joining dx (y6 l1 l2 (q2d r1.length) (q2d r2.length) la lb))) jn=some (.ins p.C_Joining dx (y6 l1 l2 (q2d r1.length) (q2d r2.length) la lb)):=upd_same
  generalize upd H10 jn (.ins p.C_Joining dx (y6 l1 l2 (q2d r1.length) (q2d r2.length) la lb))=H11 at eW j7 ⊢
  have w7:Same (Wo jn H) (Wo jn H11):=by rw[eW];exact w6.trans (Wo.same s10)
  have a7:Wo jn H11 l1=some (.lst ((cols r1 (wid r1)).map V.str)):=by rw[eW];exact Wo.same s10 _ _ a6
  have b7:Wo jn H11 l2=some (.lst ((cols r2 (wid r2)).map V.str)):=by rw[eW];exact Wo.same s10 _ _ b6
  have ga7:Wo jn H11 la=some (.lst ((cols r1 (wid r1)).map λc=>V.int (gpC (moF rows fo fm) c r2.length))):=by rw[eW];exact Wo.same s10 _ _ ga6
  have gb7:Wo jn H11 lb=some (.lst ((cols r2 (wid r2)).map λc=>V.int (gpC (moF rows fo fm) c r1.length))):=by rw[eW];exact Wo.in (ni (s10 _ _ j6) hlb) hlb
  clear eW
  refine⟨_,rfl,jn,_,dx,_,_,rfl,j7,T.cl_Joining,T.n_Joining_ones,(lkN (lkN (lkN (lkN (lkN lk0 (by decide +kernel)) (by decide +kernel)) (by decide +kernel)) (by decide +kernel)) (by decide +kernel)),l1,rfl,⟨_,SqL.of (Wo.sub _ _ a7)⟩,λlo hlo=>?_⟩
  refine q4q (cols r1 (wid r1)).length (λj=>V.str (q3b 45 ((cols r1 (wid r1)).getD j ⟨#[]⟩))) hlo (Nat.lt_of_le_of_lt nA (by decide)) (λj H4' s4' hj=>?_) (λH4' s4'=>?_) (λj y H4' H5' R s4' hj hy hR=>?_) λH12 s12 hlo'=>?_
  ·exact⟨_,_,SqL.of (s4' _ _ (Wo.sub _ _ a7)),by rw[List.getElem?_map,List.getElem?_eq_getElem hj];rfl⟩
  ·exact⟨_,SqL.of (s4' _ _ (Wo.sub _ _ a7)),by rw[List.length_map];exact Nat.le_refl _⟩
  ·obtain⟨rfl,hy⟩:=hy
   have ey:=hy _ (SqL.of (s4' _ _ (Wo.sub _ _ a7)))
   rw[List.getElem?_map,List.getElem?_eq_getElem hj]at ey
   cases ey
   refine⟨Kp.set0,_,rfl,_,rfl,zA _ (List.getElem_mem hj),?_⟩
   have z:=hR _ (Same.refl _)
   rw[q0u (List.getElem?_eq_getElem hj)]at z
   exact z
  rw[q1f (cols r1 (wid r1)) λc=>V.str (q3b 45 c)]at hlo'
  refine⟨_,rfl,jn,_,dx,_,_,rfl,(s12 _ _ j7),T.cl_Joining,T.n_Joining_others,(lkN (lkN (lkN (lkN lk0 (by decide +kernel)) (by decide +kernel)) (by decide +kernel)) (by decide +kernel)),l2,rfl,⟨_,SqL.of (Wo.sub _ _ (Wo.same s12 _ _ b7))⟩,λlp hlp=>?_⟩
  refine q4q (cols r2 (wid r2)).length (λj=>V.str (q3b 45 ((cols r2 (wid r2)).getD j ⟨#[]⟩))) hlp (Nat.lt_of_le_of_lt nB (by decide)) (λj H4' s4' hj=>?_) (λH4' s4'=>?_) (λj y H4' H5' R s4' hj hy hR=>?_) λH13 s13 hlp'=>?_
  ·exact⟨_,_,SqL.of (s4' _ _ (Wo.sub _ _ (Wo.same s12 _ _ b7))),by rw[List.getElem?_map,List.getElem?_eq_getElem hj];rfl⟩
  ·exact⟨_,SqL.of (s4' _ _ (Wo.sub _ _ (Wo.same s12 _ _ b7))),by rw[List.length_map];exact Nat.le_refl _⟩
  ·obtain⟨rfl,hy⟩:=hy
   have ey:=hy _ (SqL.of (s4' _ _ (Wo.sub _ _ (Wo.same s12 _ _ b7))))
   rw[List.getElem?_map,List.getElem?_eq_getElem hj]at ey
   cases ey
   refine⟨Kp.set0,_,rfl,_,rfl,zB _ (List.getElem_mem hj),?_⟩
   have z:=hR _ (Same.refl _)
   rw[q0u (List.getElem?_eq_getElem hj)]at z
   exact z
  rw[q1f (cols r2 (wid r2)) λc=>V.str (q3b 45 c)]at hlp'
  have s14:=s12.trans s13
  refine⟨_,rfl,_,rfl,_,rfl,x,lo,lp,sg,rows,fo,fm,(cols r1 (wid r1)).map (q3b 45),(cols r2 (wid r2)).map (q3b 45),rfl,(hP.same (w7.trans (Wo.same s14))).same Wo.sub,(by rw[s13 _ _ hlo',List.map_map];rfl),by rw[List.length_map];exact nA,λc hc=>?_,(by rw[hlp',List.map_map];rfl),by rw[List.length_map];exact nB,λc hc=>?_,λle H15 s15 _ hle=>?_⟩
  ·obtain⟨c',hc',rfl⟩:=List.mem_map.mp hc
   exact⟨strike_of (cA.of c' hc'),z4c (zA c' hc')⟩
  ·obtain⟨c',hc',rfl⟩:=List.mem_map.mp hc
   exact⟨strike_of (cB.of c' hc'),z4c (zB c' hc')⟩
  have s16:=s14.trans s15
  rw[List.length_map,List.length_map]at hle
  have hE:=hle.congr (g:=exF (pcF sg rows (q0s fo.2 fm.2 rows)) (moF rows fo fm) (cols r1 (wid r1)) (cols r2 (wid r2))) λi j hi hj=>by
   unfold exF
   rw[z2f hi,z2f hj]
   rfl
  refine⟨_,rfl,jn,_,dx,_,rfl,s16 _ _ j7,T.cl_Joining,T.n_Joining_extras,Nat.lt_of_le_of_lt (q0j (q0j (q0j (q0j (q0j (q0j (Nat.zero_le 0))))))) (by decide),?_⟩
  have eW:Wo jn (upd H15 jn (.ins p.C_Joining dx (y7 l1 l2 (q2d r1.length) (q2d r2.length) la lb le)))=Wo jn H15:=Wo.set
  have j8:(upd H15 jn (.ins p.C_Joining dx (y7 l1 l2 (q2d r1.length) (q2d r2.length) la lb le))) jn=some (.ins p.C_Joining dx (y7 l1 l2 (q2d r1.length) (q2d r2.length) la lb le)):=upd_same
  generalize upd H15 jn (.ins p.C_Joining dx (y7 l1 l2 (q2d r1.length) (q2d r2.length) la lb le))=H17 at eW j8 ⊢
  have w8:Same (Wo jn H) (Wo jn H17):=by rw[eW];exact w7.trans (Wo.same s16)
  have a8:Wo jn H17 l1=some (.lst ((cols r1 (wid r1)).map V.str)):=by rw[eW];exact Wo.same s16 _ _ a7
  have b8:Wo jn H17 l2=some (.lst ((cols r2 (wid r2)).map V.str)):=by rw[eW];exact Wo.same s16 _ _ b7
  have ga8:Wo jn H17 la=some (.lst ((cols r1 (wid r1)).map λc=>V.int (gpC (moF rows fo fm) c r2.length))):=by rw[eW];exact Wo.same s16 _ _ ga7
  have gb8:Wo jn H17 lb=some (.lst ((cols r2 (wid r2)).map λc=>V.int (gpC (moF rows fo fm) c r1.length))):=by rw[eW];exact Wo.same s16 _ _ gb7
  have e8:IMat (Wo jn H17) le (cols r1 (wid r1)).length (cols r2 (wid r2)).length (exF (pcF sg rows (q0s fo.2 fm.2 rows)) (moF rows fo fm) (cols r1 (wid r1)) (cols r2 (wid r2))):=by rw[eW];exact hE.woI (s16 _ _ j7)
  clear eW
  refine⟨_,rfl,jn,_,dx,_,_,rfl,j8,T.cl_Joining,T.n_Joining_extras,lk0,_,rfl,jn,_,dx,_,_,rfl,j8,T.cl_Joining,T.n_Joining_others,(lkN (lkN (lkN (lkN (lkN lk0 (by decide +kernel)) (by decide +kernel)) (by decide +kernel)) (by decide +kernel)) (by decide +kernel)),_,_,rfl,.inl ⟨_,SqL.of (Wo.sub _ _ b8),rfl⟩,le,(cols r1 (wid r1)).length,(cols r2 (wid r2)).length,exF (pcF sg rows (q0s fo.2 fm.2 rows)) (moF rows fo fm) (cols r1 (wid r1)) (cols r2 (wid r2)),(by rw[List.length_map];rfl),e8.same Wo.sub,nA,nB,λlr H18 s18 _ hlr=>⟨_,rfl,jn,_,dx,_,rfl,s18 _ _ j8,T.cl_Joining,T.n_Joining_rests,Nat.lt_of_le_of_lt (q0j (q0j (q0j (q0j (q0j (q0j (q0j (Nat.zero_le 0)))))))) (by decide),?_⟩⟩
  have w18:=Wo.same (t:=jn) s18
  refine kq hO _ (λa u ha hne=>?_) ⟨dx,l1,l2,la,lb,le,lr,upd_same,(w18.trans Wo.upd) _ _ a8,(w18.trans Wo.upd) _ _ b8,(w18.trans Wo.upd) _ _ ga8,(w18.trans Wo.upd) _ _ gb8,e8.same (w18.trans Wo.upd),(hlr.woI (s18 _ _ j8)).same Wo.upd⟩
  rw[upd_ne hne]
  exact Wo.sub _ _ (w18 _ _ (w8 _ _ (Wo.in hne ha)))
end
section
variable{P:Program}{w:World}{K:PySem.W.Frag}{mg:Str->Option Value}{base:Heap}
theorem z5p {f_first_move:Addr} {fd_first_move:FuncData} {p:Pm} (T:Txt K mg p w) (D_first_move:Dn K mg "first_move" q6c ["joining","i","j"] f_first_move fd_first_move)  :FnOk P w K mg base CX0 1 f_first_move fd_first_move ["joining","i","j"] (spFstM K p.C_Joining):=by
 refine D_first_move.fn.ok q6r (λvs H Q E h=>?_) (λcdv A outer s H vs Q E hr h=>?_)
 ·obtain⟨jn,A,B,n1,n2,pc,mo,i,j,rfl,_⟩:=h
  rfl
 ·obtain⟨jn,A,B,n1,n2,pc,mo,i,j,rfl,⟨dx,l1,l2,la,lb,le,lr,h1,h2,h3,_,_,h6,h7⟩,nA,nB,hi,hj,k⟩:=h
  obtain⟨L,g1,g2,g3⟩:=h7.at_
  obtain⟨M,f1,f2,f3⟩:=h6.at_
  have eA:(A.map V.str).length=A.length:=List.length_map ..
  have eB:(B.map V.str).length=B.length:=List.length_map ..
  unfold mvF at k
  refine⟨_,(q0c (q2h (q0v q7c (pv 1) (q0i (q0l) rfl T.z_len q0y (q0a (q1d (pv 0) rfl) q0b)) (q1e _)) (q0d (q0r q2t)) q1a)
   (q0c (q0n (i:=3) q6r.nd rfl (Or.inl rfl) (q0w q0o (q0w q0o (q1d (pv 0) rfl) (pv 1) (λ_ _=>rfl)) (pv 2) (λ_ _=>rfl)))
   (q0c (q0n (i:=4) q6r.nd rfl (Or.inl rfl) (q0w q0o (q1d (pv 0) rfl) (q0p q1j (pv 1) q0e) (λ_ _=>rfl)))
   (q0c (q2h (PW.pt (pw_and (q0v op_lt (pv 2) (q0i (q0l) rfl T.z_len q0y (q0a (q1d (pv 0) rfl) q0b)) (q1e _)) (z5b (q0v q7c (q0p q1j (q0w q0o (q0w q0o (q1d (pv 0) rfl) (pv 1) (λ_ _=>rfl)) (pv 2) (λ_ _=>rfl)) (q0w q0o (pv 4) (q0p q1j (pv 2) q0e) (λ_ _=>rfl))) (pv 3) (q1e _))))) (q0d (q0r q2t)) q1a)
   (q0d (q0r (z5d (q0v q7c (q0w q0o (pv 4) (pv 2) (λ_ _=>rfl)) (pv 3) (q1e _)) q2t q2t))))))),?_⟩
  refine⟨_,rfl,_,rfl,jn,_,dx,_,_,rfl,h1,T.cl_Joining,T.n_Joining_ones,jf_ones,_,_,rfl,.inl ⟨_,SqL.of h2,rfl⟩,rfl,_,rfl,?_⟩
  rw[decI,eA]
  refine q2n (λe=>?_) (λe=>?_)
  ·rw[if_pos (by omega)]at k
   exact k
  rw[if_neg (by omega)]at k
  have hi':i<A.length:=by omega
  obtain⟨r,a1,a2⟩:=g3 i (by omega)
  obtain⟨r',b1,b2⟩:=g3 (i+1) (by omega)
  refine⟨_,rfl,jn,_,dx,_,_,rfl,h1,T.cl_Joining,T.n_Joining_rests,z1w,_,rfl,lr,_,_,.ref r,rfl,rfl,SqL.of g1,q0q a1,_,rfl,r,_,_,.int (q4s (exF pc mo A B) A.length B.length i j),rfl,rfl,SqL.of a2,q0q (q1k (by omega)),?_⟩
  refine⟨_,rfl,jn,_,dx,_,_,rfl,h1,T.cl_Joining,T.n_Joining_rests,z1w,_,rfl,_,_,rfl,rfl,lr,_,_,.ref r',rfl,rfl,SqL.of g1,q0q b1,?_⟩
  refine⟨_,rfl,_,rfl,jn,_,dx,_,_,rfl,h1,T.cl_Joining,T.n_Joining_others,z2y,_,_,rfl,.inl ⟨_,SqL.of h3,rfl⟩,_,_,rfl,rfl,_,rfl,?_⟩
  rw[eB]
  by_cases hjl:j<B.length
  ·rw[decide_eq_true (show(j:Int)<(B.length:Int) by omega)]
   obtain⟨q,c1,c2⟩:=f3 i hi'
   refine z3x ⟨_,rfl,jn,_,dx,_,_,rfl,h1,T.cl_Joining,T.n_Joining_extras,jf_extras,_,rfl,le,_,_,.ref q,rfl,rfl,SqL.of f1,q0q c1,_,rfl,q,_,_,.int (exF pc mo A B i j),rfl,rfl,SqL.of c2,q0q (q1k hjl),_,rfl,_,rfl,_,_,rfl,rfl,r',_,_,.int (q4s (exF pc mo A B) A.length B.length (i+1) (j+1)),rfl,rfl,SqL.of b2,q0q (j:=j+1) (q1k (by omega)),_,_,rfl,rfl,_,rfl,rfl,_,rfl,?_⟩
   rw[decI]
   refine q2n (λe2=>?_) (λe2=>?_)
   ·rw[if_pos ⟨hjl,e2⟩]at k
    exact k
   ·rw[if_neg λz=>e2 z.2]at k
    refine⟨_,rfl,_,rfl,r',_,_,.int (q4s (exF pc mo A B) A.length B.length (i+1) j),rfl,rfl,SqL.of b2,q0q (q1k (by omega)),_,rfl,rfl,_,rfl,?_⟩
    rw[decI]
    refine q2n (λe3=>?_) (λe3=>?_)
    ·rw[if_pos e3]at k
     exact k
    ·rw[if_neg e3]at k
     exact k
  ·rw[decide_eq_false (show ¬(j:Int)<(B.length:Int) by omega)]
   rw[if_neg λz=>hjl z.1]at k
   refine z1x (z1x ⟨_,rfl,_,rfl,r',_,_,.int (q4s (exF pc mo A B) A.length B.length (i+1) j),rfl,rfl,SqL.of b2,q0q (q1k (by omega)),_,rfl,rfl,_,rfl,?_⟩)
   rw[decI]
   refine q2n (λe3=>?_) (λe3=>?_)
   ·rw[if_pos e3]at k
    exact k
   ·rw[if_neg e3]at k
    exact k
theorem z3r {f_first_moves f_first_move f_place_behind:Addr} {fd_first_moves fd_first_move fd_place_behind:FuncData} {p:Pm} (T:Txt K mg p w) (D_first_moves:Dn K mg "first_moves" q5a ["joining"] f_first_moves fd_first_moves) (D_first_move:Dn K mg "first_move" q6c ["joining","i","j"] f_first_move fd_first_move) (G_first_move:FnOk P w K mg base CX0 1 f_first_move fd_first_move ["joining","i","j"] (spFstM K p.C_Joining)) (D_place_behind:Dn K mg "place_behind" q3h ["place","move"] f_place_behind fd_place_behind) (G_place_behind:FnOk P w K mg base CX0 1 f_place_behind fd_place_behind ["place","move"] (z4t K)):FnOk P w K mg base CX0 2 f_first_moves fd_first_moves ["joining"] (spFstMs K p.C_Joining):=by
 refine D_first_moves.fn.ok q3e (λvs H Q E h=>?_) (λcdv A outer s H vs Q E hr h=>?_)
 ·obtain⟨jn,A,B,n1,n2,pc,mo,rfl,_⟩:=h
  rfl
 ·obtain⟨jn,A,B,n1,n2,pc,mo,rfl,hJ,nA,nB,k⟩:=h
  have eA:(A.map V.str).length=A.length:=List.length_map ..
  have eB:(B.map V.str).length=B.length:=List.length_map ..
  refine⟨_,(q0c (q0n (i:=1) q3e.nd rfl (Or.inl rfl) (q7t (q0a q0e (q0a q0e q0b))))
   (q0c (q0n (i:=2) q3e.nd rfl (Or.inl rfl) (q4p q0b))
   (q0c (ps_while PassesOwn.never (q0v (op_neT (Nat.lt_of_succ_lt (z3y hr))) (pv 1) (q7t (q0a (q0i (q0l) rfl T.z_len q0y (q0a (q1d (pv 0) rfl) q0b)) (q0a (q0i (q0l) rfl T.z_len q0y (q0a (q1d (pv 0) rfl) q0b)) q0b))) (q1e _)) (q0c (q0n (i:=3) q3e.nd rfl (Or.inl rfl) (q0h G_first_move (hr.mono (by decide)) rfl D_first_move.m D_first_move.fn.kp D_first_move.b .nil q0t (q0a (pv 0) (q0a (q0w q3j (pv 1) q0e (λ_ _=>rfl)) (q0a (q0w q3j (pv 1) q0e (λ_ _=>rfl)) q0b)))))
   (q0c (q1r (z0i PySem.F.plainAttrs_list PySem.F.slot_list_append PySem.F.type_list_append q2v (pv 2) (q0a (pv 3) q0b)))
   (q0d (q0n (i:=1) q3e.nd rfl (Or.inl rfl) (q0h G_place_behind (hr.mono (by decide)) rfl D_place_behind.m D_place_behind.fn.kp D_place_behind.b .nil q0t (q0a (pv 1) (q0a (pv 3) q0b))))))))
   (q0d (q0r (pv 2)))))),?_⟩
  refine⟨by show 2<=sizeLine;decide,λq0 hq0=>⟨by show 0<=sizeLine;decide,λl hl=>?_⟩⟩
  have s0:=(Same.upd (o:=.tup [.int 0,.int 0]) hq0).trans (Same.upd (o:=.lst []) hl)
  have nq:q0≠l:=λz=>by rw[←z,upd_same]at hl;cases hl
  have hl0:H l=none:=Same.free (Same.upd hq0) hl
  refine⟨λm σ H2=>∃(q:Addr) (v3:Option V) (cs:List Nat) (i j:Nat),σ=[some (.ref jn),some (.ref q),some (.ref l),v3]/\Same H H2/\H2 l=some (.lst (cs.map sg))/\TupAt H2 q ((i:Int),(j:Int))/\FstW (exF pc mo A B) A.length B.length cs i j/\m=A.length+B.length-(i+j),⟨_,q0,_,[],0,0,rfl,s0,upd_same,?_,.nil,rfl⟩,?_⟩
  ·show upd _ _ _ q0=_
   rw[upd_ne nq]
   exact upd_same
  rintro m σ H2 ⟨q,v3,cs,i,j,rfl,s2,h2,hq,hF,hm⟩
  obtain⟨hi,hj,hc⟩:=hF.path.in
  obtain⟨dx,l1,l2,la,lb,le,lr,h1,h3,h4,_⟩:=hJ.same s2
  refine⟨_,rfl,_,rfl,jn,_,dx,_,_,rfl,h1,T.cl_Joining,T.n_Joining_ones,jf_ones,_,_,rfl,.inl ⟨_,SqL.of h3,rfl⟩,_,rfl,jn,_,dx,_,_,rfl,h1,T.cl_Joining,T.n_Joining_others,z2y,_,_,rfl,.inl ⟨_,SqL.of h4,rfl⟩,by show 2<=sizeLine;decide,λqt hqt=>?_⟩
  have s3:=s2.trans (Same.upd (o:=.tup [.int (((A.map V.str).length:Nat):Int),.int (((B.map V.str).length:Nat):Int)]) hqt)
  have h2':=Same.upd (o:=.tup [.int (((A.map V.str).length:Nat):Int),.int (((B.map V.str).length:Nat):Int)]) hqt _ _ h2
  have hq':TupAt (upd H2 qt (.tup [.int (((A.map V.str).length:Nat):Int),.int (((B.map V.str).length:Nat):Int)])) q ((i:Int),(j:Int)):=Same.upd hqt _ _ hq
  refine⟨q,qt,_,_,rfl,rfl,hq'.fr,SqT.of upd_same,rfl,rfl,_,rfl,?_⟩
  generalize upd H2 qt (.tup [.int (((A.map V.str).length:Nat):Int),.int (((B.map V.str).length:Nat):Int)])=H3 at s3 h2' hq' ⊢
  rw[tup2_dec,eA,eB]
  by_cases he:i=A.length/\j=B.length
  ·rw[decide_eq_true (show(i:Int)=(A.length:Int)/\(j:Int)=(B.length:Int) by omega)]
   obtain⟨rfl,rfl⟩:=he
   exact z3a ⟨_,rfl,k l H3 cs s3 hl0 h2' hF⟩
  ·rw[decide_eq_false (show ¬((i:Int)=(A.length:Int)/\(j:Int)=(B.length:Int)) by omega)]
   obtain⟨i',j',hm',hres⟩:=mvF_at (E:=exF pc mo A B) hi hj he
   obtain⟨e1,e2,e3⟩:=hm'.in hi hj
   refine iteNF ⟨λσ' H'=>∃(q:Addr) (v3:Option V) (cs:List Nat),σ'=[some (.ref jn),some (.ref q),some (.ref l),v3]/\Same H H'/\H' l=some (.lst (cs.map sg))/\TupAt H' q ((i':Int),(j':Int))/\FstW (exF pc mo A B) A.length B.length cs i' j',λσ' H' h=>?_,?_⟩
   ·obtain⟨q,v3,cs,rfl,a,b,c,d⟩:=h
    exact⟨A.length+B.length-(i'+j'),by omega,q,v3,cs,i',j',rfl,a,b,c,d,rfl⟩
   refine⟨_,rfl,_,rfl,q,_,_,_,rfl,rfl,hq'.fr,rfl,_,rfl,q,_,_,_,rfl,rfl,hq'.fr,rfl,jn,A,B,n1,n2,pc,mo,i,j,rfl,hJ.same s3,nA,nB,hi,hj,?_⟩
   refine⟨_,rfl,.inl ⟨rfl,_,SqL.of h2'⟩,_,rfl,l,_,_,rfl,rfl,h2',?_,?_⟩
   ·rw[List.length_map]
    exact Nat.lt_of_le_of_lt (show cs.length<=1000 by omega) (by decide)
   have hq2:=hq'.off (o:=.lst (cs.map sg++[V.str ⟨#[mvF (exF pc mo A B) A.length B.length i j]⟩])) h2'
   have hl4:upd H3 l (.lst (cs.map sg++[V.str ⟨#[mvF (exF pc mo A B) A.length B.length i j]⟩])) l=some (.lst ((cs++[mvF (exF pc mo A B) A.length B.length i j]).map sg)):=by
    rw[upd_same,List.map_append]
    rfl
   have s4:Same H (upd H3 l (.lst (cs.map sg++[V.str ⟨#[mvF (exF pc mo A B) A.length B.length i j]⟩]))):=Same.at s3 hl0
   generalize upd H3 l (.lst (cs.map sg++[V.str ⟨#[mvF (exF pc mo A B) A.length B.length i j]⟩]))=H4 at hq2 hl4 s4 ⊢
   refine⟨_,rfl,_,rfl,q,_,_,rfl,hq2.fr,mvF_mv,λr hr=>?_⟩
   rw[hm'.stp]
   exact⟨r,_,_,rfl,s4.trans (Same.upd hr),Same.upd hr _ _ hl4,upd_same,hF.snoc hm' hres⟩
end
section
variable{P:Program}{w:World}{K:PySem.W.Frag}{mg:Str->Option Value}{base:Heap}
theorem z2t {f_laid_columns f_place_behind:Addr} {fd_laid_columns fd_place_behind:FuncData} {p:Pm} (T:Txt K mg p w) (D_laid_columns:Dn K mg "laid_columns" q4i ["ones","others","one_gaps","other_gaps","moves"] f_laid_columns fd_laid_columns) (D_place_behind:Dn K mg "place_behind" q3h ["place","move"] f_place_behind fd_place_behind) (G_place_behind:FnOk P w K mg base CX0 1 f_place_behind fd_place_behind ["place","move"] (z4t K)):FnOk P w K mg base CX0 2 f_laid_columns fd_laid_columns ["ones","others","one_gaps","other_gaps","moves"] (spLaidL K):=by
 refine D_laid_columns.fn.ok q1m (λvs H Q E h=>?_) (λcdv A outer s H vs Q E hr h=>?_)
 ·obtain⟨l1,l2,lm,A,B,g1,g2,cs,i,j,rfl,_⟩:=h
  rfl
 ·obtain⟨l1,l2,lm,A,B,g1,g2,cs,ie,je,rfl,h1,h2,hm,nA,nB,zA,zB,z1,z2,hp,k⟩:=h
  obtain⟨pi1,pj1,hpat⟩:=hp.at_
  have hcl:=hp.in.2.2
  obtain⟨pi2,pj2,_⟩:=hp.in
  refine⟨_,(q0c (q0n (i:=5) q1m.nd rfl (Or.inl rfl) (q4p q0b))
   (q0c (q0n (i:=6) q1m.nd rfl (Or.inl rfl) (q7t (q0a q0e (q0a q0e q0b))))
   (q0c (q1n PassesOwn.never rfl (q2s (pv 4)) (q0m (i:=7) q1m.nd rfl (Or.inl rfl)) (q0c (q0n (i:=8) q1m.nd rfl (Or.inl rfl) (pe_kget (q3y (v:=.ref p.a_STEPS) rfl T.g_STEPS rfl) (pv 7) (λ_ _=>rfl)))
   (q1x (q0n (i:=9) q1m.nd rfl (Or.inl rfl) (z5d (q0v q7c (q0w q3j (pv 8) q0e (λ_ _=>rfl)) q0e (q1e _)) (q0w q0o (pv 0) (q0w q3j (pv 6) q0e (λ_ _=>rfl)) (λ_ _=>rfl)) (pv 2)))
   (q1x (q0n (i:=10) q1m.nd rfl (Or.inl rfl) (z5d (q0v q7c (q0w q3j (pv 8) q0e (λ_ _=>rfl)) q0e (q1e _)) (q0w q0o (pv 1) (q0w q3j (pv 6) q0e (λ_ _=>rfl)) (λ_ _=>rfl)) (pv 3)))
   (q0c (q1r (z0i PySem.F.plainAttrs_list PySem.F.slot_list_append PySem.F.type_list_append q2v (pv 5) (q0a (q0p q4f (pv 9) (pv 10)) q0b)))
   (q0d (q0n (i:=6) q1m.nd rfl (Or.inl rfl) (q0h G_place_behind (hr.mono (by decide)) rfl D_place_behind.m D_place_behind.fn.kp D_place_behind.b .nil q0t (q0a (pv 6) (q0a (pv 7) q0b))))))))))
   (q0d (q0r (pv 5)))))),?_⟩
  refine⟨by show 0<=sizeLine;decide,λl hl=>?_⟩
  refine⟨by show 2<=sizeLine;decide,λq0 hq0=>?_⟩
  have s1:Same H (upd (upd H l (.lst [])) q0 (.tup [.int 0,.int 0])):=(Same.upd hl).trans (Same.upd hq0)
  have nq:l≠q0:=λz=>by rw[←z,upd_same]at hq0;cases hq0
  refine⟨_,rfl,lm,rfl,⟨_,SqL.of (s1 _ _ hm)⟩,q5g (K:=K) (a:=lm) (xs:=cs.map sg) (λi σ H2=>∃(q:Addr) (v7 v8 v9 v10:Option V),σ=[some (.ref l1),some (.ref l2),some (.str g1),some (.str g2),some (.ref lm),some (.ref l),some (.ref q),v7,v8,v9,v10]/\H2 l=some (.lst ((osF A B g1 g2 cs i).map V.str))/\TupAt H2 q ((pI cs i:Int),(pJ cs i:Int))/\Same H H2)
   ⟨q0,_,_,_,_,rfl,by rw[upd_ne nq];exact upd_same,upd_same,s1⟩ (λi σ H2 _ hh=>?_) ?_ ?_⟩
  ·obtain⟨_,_,_,_,_,_,_,_,s2⟩:=hh
   exact SqL.of (s2 _ _ hm)
  ·rintro i y σ H2 hy ⟨q,v7,v8,v9,v10,rfl,hl2,tq,s2⟩
   obtain⟨c,hc,rfl⟩:=q7m hy
   have hi:i<cs.length:=(List.getElem?_eq_some_iff.mp hc).1
   obtain⟨c',hc',hmv⟩:=hpat i hi
   rw[hc]at hc'
   cases hc'
   have hst1:=hmv.stp
   have hmo:=hmv.ok
   obtain⟨v,st,hv,hst,ha,hb⟩:∃(v:Addr) (st:Fra),q7n [(Sum.inr (Str.ofString "p"),V.ref p.v_STEPS0),(Sum.inr (Str.ofString "a"),V.ref p.v_STEPS1),(Sum.inr (Str.ofString "b"),V.ref p.v_STEPS2)] (Sum.inr ⟨#[c]⟩:Key)=some (.ref v)/\(∀H:Hp,SqT K H v [.int st.1,.int st.2]) ∧
     ((st.1=1/\pI cs i<A.length/\c≠98)\/(st.1=0/\c=98))/\((st.2=1/\pJ cs i<B.length/\c≠97)\/(st.2=0/\c=97)):=by
    generalize pI cs (i+1)=i1 at hmv
    generalize pJ cs (i+1)=j1 at hmv
    cases hmv with
    |p hi hj=>exact⟨p.v_STEPS0,(1,1),q1y (show(Sum.inr (Str.ofString "p"):Key)=Sum.inr ⟨#[112]⟩ by decide +kernel),T.q_STEPS0,.inl ⟨rfl,hi,by decide⟩,.inl ⟨rfl,hj,by decide⟩⟩
    |a hi=>exact⟨p.v_STEPS1,(1,0),(q1z (show ¬(Sum.inr (Str.ofString "p"):Key)=Sum.inr ⟨#[97]⟩ by decide +kernel)).trans (q1y (show(Sum.inr (Str.ofString "a"):Key)=Sum.inr ⟨#[97]⟩ by decide +kernel)),T.q_STEPS1,.inl ⟨rfl,hi,by decide⟩,.inr ⟨rfl,rfl⟩⟩
    |b hj=>exact⟨p.v_STEPS2,(0,1),(q1z (show ¬(Sum.inr (Str.ofString "p"):Key)=Sum.inr ⟨#[98]⟩ by decide +kernel)).trans ((q1z (show ¬(Sum.inr (Str.ofString "a"):Key)=Sum.inr ⟨#[98]⟩ by decide +kernel)).trans (q1y (show(Sum.inr (Str.ofString "b"):Key)=Sum.inr ⟨#[98]⟩ by decide +kernel))),T.q_STEPS2,.inr ⟨rfl,rfl⟩,.inl ⟨rfl,hj,by decide⟩⟩
   refine⟨_,rfl,p.a_STEPS,_,.inr ⟨#[c]⟩,_,rfl,rfl,T.kd_STEPS P,hv,?_⟩
   obtain⟨L,hL⟩:∃L:Str,L=(if c=98 then g1 else A.getD (pI cs i) ⟨#[]⟩):=⟨_,rfl⟩
   obtain⟨R,hR⟩:∃R:Str,R=(if c=97 then g2 else B.getD (pJ cs i) ⟨#[]⟩):=⟨_,rfl⟩
   have zL:L.cps.size<=1000:=by
    rcases ha with⟨_,e2,e3⟩|⟨_,e3⟩
    ·rw[hL,if_neg e3];exact zA _ (q1p e2)
    ·rw[hL,if_pos e3];exact z1
   have zR:R.cps.size<=1000:=by
    rcases hb with⟨_,e2,e3⟩|⟨_,e3⟩
    ·rw[hR,if_neg e3];exact zB _ (q1p e2)
    ·rw[hR,if_pos e3];exact z2
   refine⟨λσ' H'=>H'=H2/\σ'=[some (.ref l1),some (.ref l2),some (.str g1),some (.str g2),some (.ref lm),some (.ref l),some (.ref q),some (.str ⟨#[c]⟩),some (.ref v),some (.str L),v10],?_,?_⟩
   ·refine⟨_,rfl,v,_,_,_,rfl,rfl,hst _,rfl,rfl,_,rfl,?_⟩
    rcases ha with⟨e1,e2,e3⟩|⟨e1,e3⟩
    ·rw[e1,decide_eq_true rfl]
     refine z3x ⟨_,rfl,_,rfl,q,_,_,_,rfl,rfl,tq.fr,rfl,l1,_,_,.str L,rfl,rfl,SqL.of (s2 _ _ h1),q0q ?_,rfl,rfl⟩
     rw[hL,if_neg e3,List.getElem?_map,List.getElem?_eq_getElem e2,q0u (List.getElem?_eq_getElem e2)];rfl
    ·rw[e1,decide_eq_false (show ¬V.int 0=V.int 1 by decide)]
     refine z1x ⟨_,rfl,rfl,?_⟩
     rw[hL,if_pos e3];rfl
   rintro σ' H3 ⟨rfl,rfl⟩
   refine⟨λσ' H'=>H'=H3/\σ'=[some (.ref l1),some (.ref l2),some (.str g1),some (.str g2),some (.ref lm),some (.ref l),some (.ref q),some (.str ⟨#[c]⟩),some (.ref v),some (.str L),some (.str R)],?_,?_⟩
   ·refine⟨_,rfl,v,_,_,_,rfl,rfl,hst _,rfl,rfl,_,rfl,?_⟩
    rcases hb with⟨e1,e2,e3⟩|⟨e1,e3⟩
    ·rw[e1,decide_eq_true rfl]
     refine z3x ⟨_,rfl,_,rfl,q,_,_,_,rfl,rfl,tq.fr,rfl,l2,_,_,.str R,rfl,rfl,SqL.of (s2 _ _ h2),q0q ?_,rfl,rfl⟩
     rw[hR,if_neg e3,List.getElem?_map,List.getElem?_eq_getElem e2,q0u (List.getElem?_eq_getElem e2)];rfl
    ·rw[e1,decide_eq_false (show ¬V.int 0=V.int 1 by decide)]
     refine z1x ⟨_,rfl,rfl,?_⟩
     rw[hR,if_pos e3];rfl
   rintro σ' H4 ⟨rfl,rfl⟩
   refine⟨_,rfl,.inl ⟨rfl,_,SqL.of hl2⟩,_,rfl,_,rfl,_,_,rfl,rfl,Nat.le_trans (Nat.add_le_add zL zR) (by decide),l,_,_,rfl,rfl,hl2,?_,?_⟩
   ·unfold osF
    rw[List.length_map,List.length_map,List.length_range]
    exact Nat.lt_of_lt_of_le (show i<1000 by omega) (by decide)
   have tq2:=tq.off (o:=.lst ((osF A B g1 g2 cs i).map V.str++[V.str (L++R)])) hl2
   have hl3:upd H4 l (.lst ((osF A B g1 g2 cs i).map V.str++[V.str (L++R)])) l=some (.lst ((osF A B g1 g2 cs (i+1)).map V.str)):=by
    rw[upd_same]
    unfold osF
    rw[q5j,List.map_append,List.map_singleton,q0u hc,hL,hR]
    rfl
   have s3:Same H (upd H4 l (.lst ((osF A B g1 g2 cs i).map V.str++[V.str (L++R)]))):=Same.at s2 hl
   generalize upd H4 l (.lst ((osF A B g1 g2 cs i).map V.str++[V.str (L++R)]))=H5 at tq2 hl3 s3 ⊢
   refine⟨_,rfl,_,rfl,q,c,_,rfl,tq2.fr,hmo,λr hr=>?_⟩
   rw[hst1]
   exact⟨r,_,_,_,_,rfl,Same.upd hr _ _ hl3,upd_same,s3.trans (Same.upd hr)⟩
  ·rintro σ H2 ⟨q,v7,v8,v9,v10,rfl,hl2,tq,s2⟩
   rw[List.length_map]at hl2
   exact⟨_,rfl,k l H2 s2 hl hl2⟩
theorem z2u {f_joined_block f_first_moves f_laid_columns f_turned f_Block___init__:Addr} {fd_joined_block fd_first_moves fd_laid_columns fd_turned fd_Block___init__:FuncData} {p:Pm} (T:Txt K mg p w) (D_joined_block:Dn K mg "joined_block" q4j ["joining"] f_joined_block fd_joined_block) (D_first_moves:Dn K mg "first_moves" q5a ["joining"] f_first_moves fd_first_moves) (G_first_moves:FnOk P w K mg base CX0 2 f_first_moves fd_first_moves ["joining"] (spFstMs K p.C_Joining)) (D_laid_columns:Dn K mg "laid_columns" q4i ["ones","others","one_gaps","other_gaps","moves"] f_laid_columns fd_laid_columns) (G_laid_columns:FnOk P w K mg base CX0 2 f_laid_columns fd_laid_columns ["ones","others","one_gaps","other_gaps","moves"] (spLaidL K)) (D_turned:Dn K mg "turned" q9j ["texts","many"] f_turned fd_turned) (G_turned:FnOk P w K mg base CX0 2 f_turned fd_turned ["texts","many"] (z4r K)) (D_Block___init__:Dm K "__init__" "Block.__init__" q1g ["self","rows"] f_Block___init__ fd_Block___init__) (M_Block:Mk K p.C_Block f_Block___init__) (G_Block___init__:FnOk P w K mg base CX0 5 f_Block___init__ fd_Block___init__ ["self","rows"] (nv (spBlock K p.C_Block p.C_NoBlock))):FnOk P w K mg base CX0 7 f_joined_block fd_joined_block ["joining"] (spJoinB K p.C_Block p.C_Joining):=by
 refine D_joined_block.fn.ok q5m (λvs H Q E h=>?_) (λcdv A outer s H vs Q E hr h=>?_)
 ·obtain⟨jn,A,B,n1,n2,pc,mo,kn,rfl,_⟩:=h
  rfl
 ·obtain⟨jn,A,B,n1,n2,pc,mo,kn,rfl,hJ,ok,k⟩:=h
  refine⟨_,(q0c (q0n (i:=1) q5m.nd rfl (Or.inl rfl) (q0h G_first_moves (hr.mono (by decide)) rfl D_first_moves.m D_first_moves.fn.kp D_first_moves.b .nil q0t (q0a (pv 0) q0b)))
   (q0c (q0n (i:=2) q5m.nd rfl (Or.inl rfl) (q0h G_laid_columns (hr.mono (by decide)) rfl D_laid_columns.m D_laid_columns.fn.kp D_laid_columns.b .nil q0t (q0a (q1d (pv 0) rfl) (q0a (q1d (pv 0) rfl) (q0a (q1d (pv 0) rfl) (q0a (q1d (pv 0) rfl) (q0a (pv 1) q0b)))))))
   (q0d (q0r (q7u M_Block G_Block___init__ (hr.mono (by decide)) rfl T.mg_Block D_Block___init__.b .nil q0t (q0a (q0h G_turned (hr.mono (by decide)) rfl D_turned.m D_turned.fn.kp D_turned.b .nil q0t (q0a (pv 2) (q0a (q0i (q0l) rfl T.z_len q0y (q0a (q0p q4f (q1d (pv 0) rfl) (q1d (pv 0) rfl)) q0b)) q0b))) q0b)))))),?_⟩
  have nA:=ok.la
  have nB:=ok.lb
  refine⟨_,rfl,jn,A,B,n1,n2,pc,mo,rfl,hJ,by omega,by omega,λlm H1 cs s1 _ hm hF=>?_⟩
  obtain⟨dx,l1,l2,la,lb,le,lr,h1,h2,h3,_⟩:=hJ.same s1
  have hin:=hF.path.in
  have m1:=ok.s1
  have m2:=ok.s2
  refine⟨_,rfl,jn,_,dx,_,_,rfl,h1,T.cl_Joining,T.n_Joining_ones,jf_ones,_,rfl,jn,_,dx,_,_,rfl,h1,T.cl_Joining,T.n_Joining_others,z2y,_,rfl,jn,_,dx,_,_,rfl,h1,T.cl_Joining,T.n_Joining_one_gaps,z2z,_,rfl,jn,_,dx,_,_,rfl,h1,T.cl_Joining,T.n_Joining_other_gaps,q9x,_,rfl,l1,l2,lm,A,B,q2d n1,q2d n2,cs,A.length,B.length,rfl,h2,h3,hm,by omega,by omega,λc hc=>by rw[ok.a.size c hc];omega,λc hc=>by rw[ok.b.size c hc];omega,by rw[q3k];omega,by rw[q3k];omega,hF.path,λlc H2 s2 _ hc=>?_⟩
  have s12:=s1.trans s2
  have h1':=s2 _ _ h1
  have hC:=hF.path.cols ok.a ok.b ok.kn
  have hz:(osF A B (q2d n1) (q2d n2) cs cs.length).length=cs.length:=by unfold osF;rw[List.length_map,List.length_range]
  have hp1:=ok.p1
  obtain⟨hbk,_⟩:=z4b (by omega) hC
  refine⟨_,rfl,_,rfl,jn,_,dx,_,_,rfl,h1',T.cl_Joining,T.n_Joining_one_gaps,z2z,_,rfl,jn,_,dx,_,_,rfl,h1',T.cl_Joining,T.n_Joining_other_gaps,q9x,_,_,rfl,rfl,?_,_,_,rfl,⟨?_,rfl⟩,.ref lc,osF A B (q2d n1) (q2d n2) cs cs.length,n1+n2,?_,⟨lc,rfl,.inl (SqL.of hc)⟩,⟨by rw[hz];omega,λr hr=>by rw[hC.size r hr];omega⟩,by omega,λr hr=>Nat.le_of_eq (hC.size r hr).symm,λlt H3 s3 _ ht=>?_⟩
  ·show(q2d n1).cps.size+(q2d n2).cps.size<=sizeLine
   rw[q3k,q3k]
   exact Nat.le_trans (show _<=1000 by omega) (by decide)
  ·show(q2d n1++q2d n2).cps.size<=sizeLine
   rw[q8c,q3k,q3k]
   exact Nat.le_trans (show _<=1000 by omega) (by decide)
  ·show [V.ref lc,V.int (((q2d n1++q2d n2).cps.size:Nat):Int)]=_
   rw[q8c,q3k,q3k]
  refine λo dx' ho hdx ndx=>?_
  have s7:Same H3 (upd (upd H3 dx' (.own o)) o (.ins p.C_Block dx' [])):=Same.at (Same.upd hdx) ho
  refine⟨o,dx',_,_,rfl,upd_same,⟨lt,rfl,.inl (SqL.of (s7 _ _ ht))⟩,⟨by rw[q1v];omega,λr hr=>?_⟩,λ_ H8 q1 q2=>?_,λz=>(by rw[hbk]at z;cases z)⟩
  ·rw[←hz]at hin
   obtain⟨j,_,rfl⟩:=List.mem_map.mp (show r∈(List.range (n1+n2)).map (colS (osF A B (q2d n1) (q2d n2) cs cs.length)) from hr)
   rw[show(colS (osF A B (q2d n1) (q2d n2) cs cs.length) j).cps.size=(osF A B (q2d n1) (q2d n2) cs cs.length).length from List.length_map ..]
   omega
  ·have g2:Same H3 H8:=λc u hc=>q1 _ _ (s7 _ _ hc) (λz=>by rw[z,ho]at hc;cases hc)
   exact⟨rfl,k o H8 cs ((s12.trans s3).trans g2) (Same.free (s12.trans s3) ho) hF q2⟩
theorem ok_joined {f_joined f_joined_block f_Joining___init__:Addr} {fd_joined fd_joined_block fd_Joining___init__:FuncData} {p:Pm} (T:Txt K mg p w) (D_joined:Dn K mg "joined" z1t ["prices","one","other"] f_joined fd_joined) (D_joined_block:Dn K mg "joined_block" q4j ["joining"] f_joined_block fd_joined_block) (G_joined_block:FnOk P w K mg base CX0 7 f_joined_block fd_joined_block ["joining"] (spJoinB K p.C_Block p.C_Joining)) (D_Joining___init__:Dm K "__init__" "Joining.__init__" q1c ["self","prices","one","other"] f_Joining___init__ fd_Joining___init__) (M_Joining:Mk K p.C_Joining f_Joining___init__) (G_Joining___init__:FnOk P w K mg base CX0 6 f_Joining___init__ fd_Joining___init__ ["self","prices","one","other"] (nv (spJoinI K p.C_Prices p.C_Block p.C_Joining p.C_NoSign))):FnOk P w K mg base CX0 8 f_joined fd_joined ["prices","one","other"] (spJoined K p.C_Prices p.C_Block):=by
 refine D_joined.fn.ok sc_joined (λvs H Q E h=>?_) (λcdv A outer s H vs Q E hr h=>?_)
 ·obtain⟨x,o1,o2,sg,rows,fo,fm,r1,r2,rfl,_⟩:=h
  rfl
 ·obtain⟨x,o1,o2,sg,rows,fo,fm,r1,r2,rfl,hP,hB1,hB2,hS1,hS2,hb1,hb2,hO,k⟩:=h
  refine⟨_,(q0d (q0r (q0h G_joined_block (hr.mono (by decide)) rfl D_joined_block.m D_joined_block.fn.kp D_joined_block.b .nil q0t (q0a (q7u M_Joining G_Joining___init__ (hr.mono (by decide)) rfl T.mg_Joining D_Joining___init__.b .nil q0t (q0a (pv 0) (q0a (pv 1) (q0a (pv 2) q0b)))) q0b)))),?_⟩
  refine⟨_,rfl,_,rfl,_,rfl,λjn dx hj hdx ndx=>?_⟩
  have s1:Same H (upd (upd H dx (.own jn)) jn (.ins p.C_Joining dx [])):=Same.at (Same.upd hdx) hj
  refine⟨jn,dx,x,o1,o2,sg,rows,fo,fm,r1,r2,rfl,upd_same,hP.same s1,hB1.same s1,hB2.same s1,hS1,hS2,hb1,hb2,λ_ H2 q1 q2=>?_,λi j hB=>absurd hO hB.no⟩
  have s2:Same H H2:=λc u hc=>q1 _ _ (s1 _ _ hc) (λz=>by rw[z,hj]at hc;cases hc)
  have cA:=z0u hb1 λr hr=>hO r (List.mem_append_left _ hr)
  have cB:=z0u hb2 λr hr=>hO r (List.mem_append_right _ hr)
  have hp:0<r1.length:=List.length_pos_iff.mpr (q2j.mp (q2x hb1)).1
  refine⟨rfl,jn,cols r1 (wid r1),cols r2 (wid r2),r1.length,r2.length,_,_,(knS sg).cps.toList,rfl,q2,⟨cA,cB,by rw[q1v];exact hS1.wid (q2x hb1),by rw[q1v];exact hS2.wid (q2x hb2),hS1.1,hS2.1,hp,q5s.mpr (.inl rfl)⟩,λb H3 cs s3 hb3 hF hblk=>?_⟩
  rw[q1v,q1v]at hF
  exact k b H3 cs (s2.trans s3) (s2.free hb3) hF hblk
end
section
variable{P:Program}{w:World}{K:PySem.W.Frag}{mg:Str->Option Value}{base:Heap}
theorem z3m {f_sums_behind:Addr} {fd_sums_behind:FuncData} {p:Pm} (T:Txt K mg p w) (D_sums_behind:Dn K mg "sums_behind" q4v ["costs"] f_sums_behind fd_sums_behind)  :FnOk P w K mg base CX0 1 f_sums_behind fd_sums_behind ["costs"] spSums:=by
 refine D_sums_behind.fn.ok q6g (λvs H Q E h=>?_) (λcdv A outer s H vs Q E hr h=>?_)
 ·obtain⟨l,n,f,rfl,_⟩:=h
  rfl
 ·obtain⟨l,n,f,rfl,hl,hn,k⟩:=h
  refine⟨_,(q0c (q0n (i:=1) q6g.nd rfl (Or.inl rfl) (q4p (q0a q0e q0b)))
   (q0c (q1n PassesOwn.never rfl (q2s (pv 0)) (q0m (i:=2) q6g.nd rfl (Or.inl rfl)) (q0d (q1r (z0i PySem.F.plainAttrs_list PySem.F.slot_list_append PySem.F.type_list_append q2v (pv 1) (q0a (q0p q1j (q0w q0o (pv 1) (pe_un z2d q0e) (λ_ _=>rfl)) (pv 2)) q0b)))))
   (q0d (q0r (pv 1))))),?_⟩
  refine⟨by show 1<=sizeLine;decide,λq hq=>?_⟩
  have s0:Same H (upd H q (.lst [.int 0])):=Same.upd hq
  have e0:((List.range n).map λj=>V.int (f j)).length=n:=by rw[List.length_map,List.length_range]
  refine⟨_,rfl,l,rfl,⟨_,SqL.of (s0 _ _ hl)⟩,q5g (K:=K) (a:=l) (xs:=(List.range n).map λj=>V.int (f j)) (λi σ H2=>∃(v2:Option V),σ=[some (.ref l),some (.ref q),v2]/\Same H H2/\H2 q=some (.lst ((List.range (i+1)).map λj=>V.int (sm f j)))) ⟨_,rfl,s0,upd_same⟩ (λi σ H2 _ hh=>?_) ?_ ?_⟩
  ·obtain⟨_,_,s2,_⟩:=hh
   exact SqL.of (s2 _ _ hl)
  ·rintro i y σ H2 hy ⟨v2,rfl,s2,h2⟩
   have hi:i<n:=by have:=(List.getElem?_eq_some_iff.mp hy).1;omega
   rw[q1k hi]at hy
   cases hy
   have lt:((List.range (i+1)).map λj=>V.int (sm f j)).length<sizeLine:=by
    rw[List.length_map,List.length_range]
    exact Nat.lt_of_le_of_lt (show i+1<=1000 by omega) (by decide)
   refine⟨_,rfl,.inl ⟨rfl,_,SqL.of h2⟩,_,rfl,_,rfl,q,_,_,.int (sm f i),rfl,rfl,SqL.of h2,(by rw[q5j];exact z0c _ _),_,rfl,_,_,rfl,rfl,q,_,_,rfl,rfl,h2,lt,_,rfl,Same.at s2 hq,?_⟩
   rw[upd_same,q5j (n:=i+1)]
   rfl
  ·rintro σ H2 ⟨v2,rfl,s2,h2⟩
   rw[e0]at h2
   exact⟨_,rfl,k q H2 s2 hq h2⟩
theorem z5o {f_join_paper f_Joining___init__ f_block_units f_sums_behind:Addr} {fd_join_paper fd_Joining___init__ fd_block_units fd_sums_behind:FuncData} {p:Pm} (T:Txt K mg p w) (D_join_paper:Dn K mg "join_paper" q4o ["prices","one","other"] f_join_paper fd_join_paper) (D_Joining___init__:Dm K "__init__" "Joining.__init__" q1c ["self","prices","one","other"] f_Joining___init__ fd_Joining___init__) (M_Joining:Mk K p.C_Joining f_Joining___init__) (G_Joining___init__:FnOk P w K mg base (CXs P w) 6 f_Joining___init__ fd_Joining___init__ ["self","prices","one","other"] (spJoinI K p.C_Prices p.C_Block p.C_Joining p.C_NoSign)) (D_block_units:Dn K mg "block_units" q5e ["prices","block"] f_block_units fd_block_units) (G_block_units:FnOk P w K mg base CX0 5 f_block_units fd_block_units ["prices","block"] (z4e K p.C_Prices p.C_Block)) (D_sums_behind:Dn K mg "sums_behind" q4v ["costs"] f_sums_behind fd_sums_behind) (G_sums_behind:FnOk P w K mg base CX0 1 f_sums_behind fd_sums_behind ["costs"] spSums):FnOk P w K mg base (CXs P w) 8 f_join_paper fd_join_paper ["prices","one","other"] (spPaper K p.C_Prices p.C_Block p.C_NoSign):=by
 refine D_join_paper.fn.okX q2b (λvs H Q E h=>?_) (λcdv A outer s H vs Q E hr h=>?_)
 ·obtain⟨x,o1,o2,sg,rows,fo,fm,r1,r2,rfl,_⟩:=h
  rfl
 ·obtain⟨x,o1,o2,sg,rows,fo,fm,r1,r2,rfl,hP,hB1,hB2,hS1,hS2,hb1,hb2,kq,ke⟩:=h
  have hl1:=q2x hb1
  have hl2:=q2x hb2
  have hw1:=hS1.wid hl1
  have hw2:=hS2.wid hl2
  refine⟨_,(q0c (q0n (i:=3) q2b.nd rfl (Or.inl rfl) (q7u M_Joining G_Joining___init__ (hr.mono (by decide)) rfl T.mg_Joining D_Joining___init__.b .nil (Lets.passes q5q) (q0a (pv 0) (q0a (pv 1) (q0a (pv 2) q0b)))))
   (q0c (q0n (i:=4) q2b.nd rfl (Or.inl rfl) (q0p q1j (q0h G_block_units (hr.mono (by decide)) rfl D_block_units.m D_block_units.fn.kp D_block_units.b .nil q0t (q0a (pv 0) (q0a (pv 1) q0b))) (q0h G_block_units (hr.mono (by decide)) rfl D_block_units.m D_block_units.fn.kp D_block_units.b .nil q0t (q0a (pv 0) (q0a (pv 2) q0b)))))
   (q0c (q0n (i:=5) q2b.nd rfl (Or.inl rfl) (q0h G_sums_behind (hr.mono (by decide)) rfl D_sums_behind.m D_sums_behind.fn.kp D_sums_behind.b .nil q0t (q0a (q1d (pv 3) rfl) q0b)))
   (q0c (q0n (i:=6) q2b.nd rfl (Or.inl rfl) (q4p q0b))
   (q0c (q1n q3q rfl (pi_zip rfl rfl T.z_zip (q0a (q0h G_sums_behind (hr.mono (by decide)) rfl D_sums_behind.m D_sums_behind.fn.kp D_sums_behind.b .nil q0t (q0a (q1d (pv 3) rfl) q0b)) (q0a (q1d (pv 3) rfl) q0b))) (z2p (n:=2) rfl (q2p (q0m (i:=7) q2b.nd rfl (Or.inl rfl)) (q2p (q0m (i:=8) q2b.nd rfl (Or.inl rfl)) q8v))) (q0c (q0n (i:=9) q2b.nd rfl (Or.inr rfl) (q0p q1j (q0p q1j (pv 4) (pv 7)) (q0w q0o (q0w q0o (q1d (pv 3) rfl) q0e (λ_ _=>rfl)) q0e (λ_ _=>rfl))))
   (q0d (q1r (z0i PySem.F.plainAttrs_list PySem.F.slot_list_append PySem.F.type_list_append q2v (pv 6) (q0a (q2f (N:=["cost","rest","number"]) rfl (CompSc.freeB (nt:=2) (ix:=[9]) rfl (by decide +kernel) (by decide +kernel) (by kernel_rfl) rfl (by kernel_rfl)) (pi_zip rfl rfl T.z_zip (q0a (pv 5) (q0a (pv 8) q0b))) (λ_ _ _ _ _ _ _=>(pg_tupK (K':=K) (n:=2) rfl rfl (q2p (q0m (i:=0) (show(["cost","rest","number"]:List Str).Nodup by decide +kernel) rfl (Or.inl rfl)) (q2p (q0m (i:=1) (show(["cost","rest","number"]:List Str).Nodup by decide +kernel) rfl (Or.inl rfl)) q8v)))) (λ_ _ _ _ _ _ _=>(q0p op_sub (q0p q1j (pv 2) (pv 0)) (pv 1)))) q0b))))))
   (q0d (q0r (pv 6)))))))),?_⟩
  refine⟨_,rfl,_,rfl,_,rfl,λjn dx hj hdx ndx=>?_⟩
  have s1:Same H (upd (upd H dx (.own jn)) jn (.ins p.C_Joining dx [])):=Same.at (Same.upd hdx) hj
  refine⟨jn,dx,x,o1,o2,sg,rows,fo,fm,r1,r2,rfl,upd_same,hP.same s1,hB1.same s1,hB2.same s1,hS1,hS2,hb1,hb2,λhO H2 q1 hJ=>?_,λi j hB dx' H2 q1 hd=>ke i j hB dx' H2 (λc u hc=>q1 _ _ (s1 _ _ hc) (λz=>by rw[z,hj]at hc;cases hc)) hd⟩
  have s2:Same H H2:=λc u hc=>q1 _ _ (s1 _ _ hc) (λz=>by rw[z,hj]at hc;cases hc)
  have kq:=kq hO
  refine⟨rfl,_,rfl,_,rfl,x,o1,sg,rows,fo,fm,r1,rfl,hP.same s2,hB1.same s2,hS1.sm,hl1,λr hr=>hO r (List.mem_append_left _ hr),λH3 s3=>?_⟩
  refine⟨_,rfl,_,rfl,x,o2,sg,rows,fo,fm,r2,rfl,hP.same (s2.trans s3),hB2.same (s2.trans s3),hS2.sm,hl2,λr hr=>hO r (List.mem_append_right _ hr),λH4 s4=>⟨_,_,rfl,rfl,?_⟩⟩
  obtain⟨dj,l1,l2,la,lb,le,lr,h1,_,_,h4,h5,_,h7⟩:=hJ.same (s3.trans s4)
  have s24:=(s2.trans s3).trans s4
  rw[q1v,q1v]at h7
  obtain⟨rr,hr1,hr2,hr3⟩:=h7
  have h4':H4 la=some (.lst ((List.range (wid r1)).map λj=>V.int (gaF (moF rows fo fm) (cols r1 (wid r1)) r2.length j))):=by
   rw[h4,←q1f (d:=⟨#[]⟩) (cols r1 (wid r1)) λc=>V.int (gpC (moF rows fo fm) c r2.length),q1v];rfl
  have h5':H4 lb=some (.lst ((List.range (wid r2)).map λj=>V.int (gaF (moF rows fo fm) (cols r2 (wid r2)) r1.length j))):=by
   rw[h5,←q1f (d:=⟨#[]⟩) (cols r2 (wid r2)) λc=>V.int (gpC (moF rows fo fm) c r1.length),q1v];rfl
  have kq:∀l H',Same H H'->IMatN H H' l (wid r1+1) (wid r2+1) (papF (z3h (tcF sg rows fo fm) r1+z3h (tcF sg rows fo fm) r2) (gaF (moF rows fo fm) (cols r1 (wid r1)) r2.length) (gaF (moF rows fo fm) (cols r2 (wid r2)) r1.length)
  (q4s (exF (pcF sg rows (q0s fo.2 fm.2 rows)) (moF rows fo fm) (cols r1 (wid r1)) (cols r2 (wid r2))) (wid r1) (wid r2)))->Q (.ref l) H':=kq
  generalize gaF (moF rows fo fm) (cols r1 (wid r1)) r2.length=fa at kq h4' ⊢
  generalize gaF (moF rows fo fm) (cols r2 (wid r2)) r1.length=fb at kq h5' ⊢
  generalize q4s (exF (pcF sg rows (q0s fo.2 fm.2 rows)) (moF rows fo fm) (cols r1 (wid r1)) (cols r2 (wid r2))) (wid r1) (wid r2)=R at kq hr3 ⊢
  generalize wid r1=m at hw1 hr1 h4' kq ⊢
  generalize wid r2=n at hw2 hr3 h5' kq ⊢
  refine⟨_,rfl,jn,_,dj,_,_,rfl,h1,T.cl_Joining,T.n_Joining_by_b,jf_by_b,lb,n,fb,rfl,h5',by omega,λlB H5 s5 _ hlB=>?_⟩
  have s25:=s24.trans s5
  refine⟨by show 0<=sizeLine;decide,λpp hpp=>?_⟩
  have s6:Same H5 (upd H5 pp (.lst [])):=Same.upd hpp
  have hp6:upd H5 pp (.lst []) pp=some (.lst []):=upd_same
  generalize upd H5 pp (.lst [])=H6 at s6 hp6 ⊢
  have hppH:H pp=none:=Same.free s25 hpp
  refine⟨_,rfl,jn,_,dj,_,_,rfl,(s5.trans s6) _ _ h1,T.cl_Joining,T.n_Joining_by_a,jf_by_a,la,m,fa,rfl,(s5.trans s6) _ _ h4',by omega,λlA H7 s7 hlA0 hlA=>?_⟩
  have nlA:lA≠pp:=λz=>by rw[z,hp6]at hlA0;cases hlA0
  have s57:=s6.trans s7
  have s47:=s5.trans s57
  have hmin:min ((List.range (m+1)).map λj=>V.int (sm fa j)).length (rr.map V.ref).length=m+1:=by rw[List.length_map,List.length_map,List.length_range,hr1];omega
  refine⟨_,rfl,jn,_,dj,_,_,rfl,s47 _ _ h1,T.cl_Joining,T.n_Joining_rests,z1w,.lst lA,.lst lr,_,_,rfl,SqL.of hlA,SqL.of (s47 _ _ hr2),for_zip (K:=K) (c:=.lst lA) (d:=.lst lr) (xs:=(List.range (m+1)).map λj=>V.int (sm fa j)) (ys:=rr.map V.ref) (λi σ H8=>∃(v7 v8 v9:Option V) (ps:List Addr),σ=[some (.ref x),some (.ref o1),some (.ref o2),some (.ref jn),some (.int (z3h (tcF sg rows fo fm) r1+z3h (tcF sg rows fo fm) r2)),some (.ref lB),some (.ref pp),v7,v8,v9]/\Same H5 H8/\H8 lA=some (.lst ((List.range (m+1)).map λj=>V.int (sm fa j)))/\H8 pp=some (.lst (ps.map V.ref))/\ps.length=i/\pp∉ps/\(∀r∈ps,H r=none)/\∀k r,ps[k]? =some r->H8 r=some (.lst ((List.range (n+1)).map λj=>V.int (papF (z3h (tcF sg rows fo fm) r1+z3h (tcF sg rows fo fm) r2) fa fb R k j)))) ⟨_,_,_,[],rfl,s57,hlA,s7 _ _ hp6,rfl,List.not_mem_nil,λr hr=>absurd hr List.not_mem_nil,λk r hr=>by simp at hr⟩ (λi σ H8 _ hh=>?_) ?_ ?_⟩
  ·obtain⟨_,_,_,_,_,s8,e8,_⟩:=hh
   exact⟨SqL.of e8,SqL.of ((s5.trans s8) _ _ hr2)⟩
  ·rintro i y z p1 σ H8 hy hz hp1 ⟨v7,v8,v9,ps,rfl,s8,e8,hpp8,hpl,hnp,hfr,hps⟩
   obtain⟨ri,hri,rfl⟩:=q7m hz
   have hi:i<m+1:=by have:=(List.getElem?_eq_some_iff.mp hri).1;omega
   rw[q1k hi]at hy
   cases hy
   refine⟨p1,_,rfl,SqT.of upd_same,rfl,_,_,rfl,_,_,rfl,rfl,?_⟩
   have s9:Same H8 (upd H8 p1 (.tup [.int (sm fa i),.ref ri])):=Same.upd hp1
   generalize upd H8 p1 (.tup [.int (sm fa i),.ref ri])=H9 at s9 ⊢
   have s59:=s8.trans s9
   have s49:=s5.trans s59
   obtain⟨r0,hr0⟩:∃r0,rr[0]? =some r0:=⟨_,List.getElem?_eq_getElem (by omega)⟩
   refine⟨_,rfl,_,rfl,_,_,rfl,rfl,_,rfl,jn,_,dj,_,_,rfl,s49 _ _ h1,T.cl_Joining,T.n_Joining_rests,z1w,lr,_,_,.ref r0,rfl,rfl,SqL.of (s49 _ _ hr2),q0q (j:=0) (by rw[List.getElem?_map,hr0];rfl),r0,_,_,.int (R 0 0),rfl,rfl,SqL.of (s49 _ _ (hr3 _ _ hr0)),q0q (j:=0) (q1k (Nat.succ_pos _)),_,_,rfl,rfl,?_⟩
   have hpp9:=s9 _ _ hpp8
   refine⟨_,rfl,.inl ⟨rfl,_,SqL.of hpp9⟩,_,rfl,_,rfl,.lst lB,.lst ri,_,_,rfl,SqL.of (s59 _ _ hlB),SqL.of (s49 _ _ (hr3 _ _ hri)),λl9 hl9=>?_⟩
   refine q4q (n+1) (λj=>V.int (papF (z3h (tcF sg rows fo fm) r1+z3h (tcF sg rows fo fm) r2) fa fb R i j)) hl9 (Nat.lt_of_le_of_lt (show n+1<=1000 by omega) (by decide)) (λj H10 s10 hj'=>?_) (λH10 s10=>?_) (λj y H10 H11 R' s10 hj' hy hR=>?_) λH10 s10 hl10=>?_
   ·exact⟨_,_,_,_,SqL.of ((s59.trans s10) _ _ hlB),SqL.of ((s49.trans s10) _ _ (hr3 _ _ hri)),q1k hj',q1k hj'⟩
   ·exact⟨_,_,SqL.of ((s59.trans s10) _ _ hlB),SqL.of ((s49.trans s10) _ _ (hr3 _ _ hri)),.inl (by rw[List.length_map,List.length_range];exact Nat.le_refl _)⟩
   ·obtain⟨pa,y1,y2,rfl,hpa,rfl,e⟩:=hy
    obtain⟨e1,e2⟩:=e _ _ (SqL.of ((s59.trans s10) _ _ hlB)) (SqL.of ((s49.trans s10) _ _ (hr3 _ _ hri)))
    rw[q1k hj']at e1 e2
    cases e1
    cases e2
    refine⟨pa,_,rfl,SqT.of upd_same,rfl,_,_,rfl,_,_,rfl,rfl,Kp.two,?_⟩
    refine⟨_,rfl,_,rfl,_,_,rfl,rfl,_,rfl,_,_,rfl,rfl,?_⟩
    exact hR _ (Same.upd hpa)
   ·have s8':=s59.trans s10
    have hpp10:=s10 _ _ hpp9
    refine⟨pp,_,_,rfl,rfl,hpp10,?_,_,_,_,ps++[l9],rfl,Same.at s8' hpp,?_,?_,by rw[List.length_append,hpl];rfl,λz=>?_,λr hr=>?_,λk r hr=>?_⟩
    ·rw[List.length_map]
     exact Nat.lt_of_le_of_lt (show ps.length<=1000 by omega) (by decide)
    ·rw[upd_ne nlA]
     exact s10 _ _ (s9 _ _ e8)
    ·rw[upd_same,List.map_append]
     rfl
    ·rcases List.mem_append.mp z with z|z
     ·exact hnp z
     ·rw[List.mem_singleton.mp z,hl9]at hpp9
      cases hpp9
    ·rcases List.mem_append.mp hr with z|z
     ·exact hfr r z
     ·rw[List.mem_singleton.mp z]
      exact Same.free (s25.trans s59) hl9
    ·have nr:r≠pp:=λz=>by
      subst z
      rcases List.mem_append.mp (List.mem_of_getElem? hr)with z|z
      ·exact hnp z
      ·rw[List.mem_singleton.mp z,hl9]at hpp9
       cases hpp9
     rw[upd_ne nr]
     by_cases hk:k<ps.length
     ·rw[List.getElem?_append_left hk]at hr
      exact s10 _ _ (s9 _ _ (hps k r hr))
     ·rw[List.getElem?_append_right (by omega)]at hr
      have:k-ps.length<1:=(List.getElem?_eq_some_iff.mp hr).1
      have ek:k=i:=by omega
      subst ek
      rw[hpl,Nat.sub_self]at hr
      cases hr
      exact hl10
  ·rintro σ H8 ⟨v7,v8,v9,ps,rfl,s8,e8,hpp8,hpl,hnp,hfr,hps⟩
   rw[hmin]at hpl
   exact⟨_,rfl,kq pp H8 (s25.trans s8) ⟨ps,hpl,hppH,hfr,hpp8,hps⟩⟩
end
section
variable{P:Program}{w:World}{K:PySem.W.Frag}{mg:Str->Option Value}{base:Heap}
theorem z5k {f_law_square f_law_whole:Addr} {fd_law_square fd_law_whole:FuncData} {p:Pm} (T:Txt K mg p w) (D_law_square:Dn K mg "_law_square" q5y ["_law_found","_law_high","_law_wide"] f_law_square fd_law_square) (D_law_whole:Dn K mg "_law_whole" q6v ["_law_found"] f_law_whole fd_law_whole) (G_law_whole:FnOk P w K mg base CX0 1 f_law_whole fd_law_whole ["_law_found"] spWholeI):FnOk P w K mg base CX0 2 f_law_square fd_law_square ["_law_found","_law_high","_law_wide"] spSquare:=by
 refine D_law_square.fn.ok q9g (λvs H Q E h=>?_) (λcdv A outer s H vs Q E hr h=>?_)
 ·obtain⟨l,m,n,f,rfl,_⟩:=h
  rfl
 ·obtain⟨l,m,n,f,rfl,⟨rs,hrs,hl,hrow⟩,hm,hn,k⟩:=h
  refine⟨_,(q0c (q2h (PW.pt (pw_or (z0y (q8q (q0i (q7j) rfl T.z_isinstance q5h (q0a (pv 0) (q0a (z5f (v:=.ty "list") rfl T.z_list bo_list rfl) q0b))))) (pw_or1 (q0v z5g (q0i (q0l) rfl T.z_len q0y (q0a (pv 0) q0b)) (q0p q1j (pv 1) q0e) (q1e _))))) (q0d (q0r z0j)) q1a)
   (q0c (q1n PassesOwn.never rfl (q2s (pv 0)) (q0m (i:=3) q9g.nd rfl (Or.inl rfl)) (q0d (q2h (PW.pt (pw_or (z0y (q8q (q0i (q7j) rfl T.z_isinstance q5h (q0a (pv 3) (q0a (z5f (v:=.ty "list") rfl T.z_list bo_list rfl) q0b))))) (pw_or (q0v z5g (q0i (q0l) rfl T.z_len q0y (q0a (pv 3) q0b)) (q0p q1j (pv 2) q0e) (q1e _)) (pw_or1 (z0y (q8q (q0i (z3g rfl) rfl T.z_all bo_all (q0a (q2f (N:=["_law_number"]) rfl (λ_=>⟨[],CompSc.plain (by decide +kernel) rfl (by decide +kernel) (by decide +kernel)⟩) (q2s (pv 3)) (λ_ _ _ _ _ _ _=>(q0m (i:=0) (show(["_law_number"]:List Str).Nodup by decide +kernel) rfl (Or.inl rfl))) (λ_ _ _ _ _ _ _=>(q0h G_law_whole (hr.mono (by decide)) rfl D_law_whole.m D_law_whole.fn.kp D_law_whole.b .nil q0t (q0a (pv 0) q0b)))) q0b)))))))) (q0d (q0r z0j)) q1a)))
   (q0d (q0r z0j)))),?_⟩
  refine⟨_,rfl,_,_,_,_,rfl,.lst hl,z5x,_,rfl,z3a ?_⟩
  refine⟨_,rfl,_,_,rfl,.inl ⟨_,SqL.of hl,rfl⟩,_,rfl,_,_,rfl,rfl,rfl,_,rfl,?_⟩
  refine z1b (λz=>absurd ?_ z) λ_=>?_
  ·rw[List.length_map,hrs];rfl
  refine⟨_,rfl,l,rfl,⟨_,SqL.of hl⟩,q5g (K:=K) (a:=l) (xs:=rs.map V.ref) (λi σ H2=>∃v3:Option V,σ=[some (.ref l),some (.int m),some (.int n),v3]/\Same H H2) ⟨_,rfl,Same.refl _⟩ (λi σ H2 _ hh=>?_) ?_ ?_⟩
  ·obtain⟨_,_,s2⟩:=hh
   exact SqL.of (s2 _ _ hl)
  ·rintro i y σ H2 hy ⟨v3,rfl,s2⟩
   obtain⟨r,hr,rfl⟩:=q7m hy
   have h2:=s2 _ _ (hrow i r hr)
   refine⟨_,rfl,_,_,_,_,rfl,.lst h2,z5x,_,rfl,z3a ?_⟩
   refine⟨_,rfl,_,_,rfl,.inl ⟨_,SqL.of h2,rfl⟩,_,rfl,_,_,rfl,rfl,rfl,_,rfl,?_⟩
   refine z1b (λz=>absurd ?_ z) λ_=>?_
   ·rw[List.length_map,List.length_range];rfl
   refine⟨_,rfl,r,rfl,⟨_,SqL.of h2⟩,λl3 hl3=>?_⟩
   refine q4q (n+1) (λ_=>V.bl true) hl3 (Nat.lt_of_le_of_lt (show n+1<=1001 by omega) (by decide)) (λj H4 s4 hj=>?_) (λH4 s4=>?_) (λj y H4 H5 R s4 hj hy hR=>?_) λH4 s4 hl4=>?_
   ·exact⟨_,_,SqL.of (s4 _ _ h2),q1k hj⟩
   ·exact⟨_,SqL.of (s4 _ _ h2),by rw[List.length_map,List.length_range];exact Nat.le_refl _⟩
   ·obtain⟨rfl,hy⟩:=hy
    have ey:=hy _ (SqL.of (s4 _ _ h2))
    rw[q1k hj]at ey
    cases ey
    exact⟨Kp.set0,_,rfl,_,rfl,hR _ (Same.refl _)⟩
   ·refine⟨l3,(List.range (n+1)).map λ_=>true,rfl,SqL.of (by rw[hl4,List.map_map];rfl),_,rfl,?_⟩
    rw[show((List.range (n+1)).map λ_=>true).all id=true from by simp]
    exact z3a ⟨_,rfl,s2.trans s4⟩
  ·rintro σ H2 ⟨v3,rfl,s2⟩
   exact k H2 s2
theorem z3q {f_law_between f_law_thing:Addr} {fd_law_between fd_law_thing:FuncData} {p:Pm} (T:Txt K mg p w) (D_law_between:Dn K mg "_law_between" q4z ["_law_prices_here","_law_left","_law_right"] f_law_between fd_law_between) (D_law_thing:Dn K mg "_law_thing" q5n ["_law_prices_here","_law_one","_law_other"] f_law_thing fd_law_thing) (G_law_thing:FnOk P w K mg base CX0 3 f_law_thing fd_law_thing ["_law_prices_here","_law_one","_law_other"] (z2g K p.C_Prices)):FnOk P w K mg base CX0 4 f_law_between fd_law_between ["_law_prices_here","_law_left","_law_right"] (spBetween K p.C_Prices):=by
 refine D_law_between.fn.ok q3d (λvs H Q E h=>?_) (λcdv A outer s H vs Q E hr h=>?_)
 ·obtain⟨x,l1,l2,sg,rows,fo,fm,L,M,rfl,_⟩:=h
  rfl
 ·obtain⟨x,l1,l2,sg,rows,fo,fm,L,M,rfl,hP,h1,h2,hL,hM,k⟩:=h
  refine⟨_,(q0c (q0n (i:=3) q3d.nd rfl (Or.inl rfl) q0e)
   (q0c (q1n PassesOwn.never rfl (q2s (pv 1)) (q0m (i:=4) q3d.nd rfl (Or.inl rfl)) (q0d (q1n PassesOwn.never rfl (q2s (pv 2)) (q0m (i:=5) q3d.nd rfl (Or.inl rfl)) (q0d (q0n (i:=3) q3d.nd rfl (Or.inl rfl) (q0p q1j (pv 3) (q0h G_law_thing (hr.mono (by decide)) rfl D_law_thing.m D_law_thing.fn.kp D_law_thing.b .nil q0t (q0a (pv 0) (q0a (pv 4) (q0a (pv 5) q0b))))))))))
   (q0d (q0r (pv 3))))),?_⟩
  have tk:∀{X:List Nat} {i c:Nat} (f:Nat->Int),X[i]? =some c->q5t f (X.take (i+1))=q5t f (X.take i)+f c:=λ{X i c} f hc=>by
   rw[List.take_add_one,hc];exact sumL_snoc f _ c
  refine⟨_,rfl,l1,rfl,⟨_,SqL.of h1⟩,q5g (K:=K) (a:=l1) (xs:=L.map L2.sg) (λi σ H2=>∃v4 v5:Option V,σ=[some (.ref x),some (.ref l1),some (.ref l2),some (.int (q5t (λa=>q5t (tcF sg rows fo fm a) M) (L.take i))),v4,v5]/\Same H H2) ⟨_,_,rfl,Same.refl _⟩ (λi σ H2 _ hh=>?_) ?_ ?_⟩
  ·obtain⟨_,_,_,s2⟩:=hh
   exact SqL.of (s2 _ _ h1)
  ·rintro i y σ H2 hy ⟨v4,v5,rfl,s2⟩
   obtain⟨a,ha,rfl⟩:=q7m hy
   refine⟨_,rfl,l2,rfl,⟨_,SqL.of (s2 _ _ h2)⟩,q5g (K:=K) (a:=l2) (xs:=M.map L2.sg) (λj σ H3=>∃v5:Option V,σ=[some (.ref x),some (.ref l1),some (.ref l2),some (.int (q5t (λa=>q5t (tcF sg rows fo fm a) M) (L.take i)+q5t (tcF sg rows fo fm a) (M.take j))),some (L2.sg a),v5]/\Same H H3) ⟨v5,?_,s2⟩ (λj σ H3 _ hh=>?_) ?_ ?_⟩
   ·rw[List.take_zero,q6n,Int.add_zero];rfl
   ·obtain⟨_,_,s3⟩:=hh
    exact SqL.of (s3 _ _ h2)
   ·rintro j z σ H3 hz ⟨v5,rfl,s3⟩
    obtain⟨b,hb,rfl⟩:=q7m hz
    refine⟨_,rfl,_,rfl,_,rfl,_,rfl,x,sg,rows,fo,fm,a,b,rfl,hP.same s3,hL a (List.mem_of_getElem? ha),hM b (List.mem_of_getElem? hb),λH4 s4=>⟨_,_,rfl,rfl,some (L2.sg b),?_,s3.trans s4⟩⟩
    rw[tk _ hb,←Int.add_assoc]
    rfl
   ·rintro σ H3 ⟨v5,rfl,s3⟩
    refine⟨some (L2.sg a),v5,?_,s3⟩
    rw[List.length_map,List.take_length,tk _ ha]
  ·rintro σ H2 ⟨v4,v5,rfl,s2⟩
   refine⟨_,rfl,?_⟩
   rw[List.length_map,List.take_length,sumL_swap (tcF sg rows fo fm) M L]
   exact k H2 s2
theorem z5j {f_law_walked f_law_between:Addr} {fd_law_walked fd_law_between:FuncData} {p:Pm} (T:Txt K mg p w) (D_law_walked:Dn K mg "_law_walked" q5x ["_law_prices_here","_law_ones","_law_others","_law_found"] f_law_walked fd_law_walked) (D_law_between:Dn K mg "_law_between" q4z ["_law_prices_here","_law_left","_law_right"] f_law_between fd_law_between) (G_law_between:FnOk P w K mg base CX0 4 f_law_between fd_law_between ["_law_prices_here","_law_left","_law_right"] (spBetween K p.C_Prices)):FnOk P w K mg base CX0 5 f_law_walked fd_law_walked ["_law_prices_here","_law_ones","_law_others","_law_found"] (spWalkedJ K p.C_Prices):=by
 refine D_law_walked.fn.ok q1o (λvs H Q E h=>?_) (λcdv A outer s H vs Q E hr h=>?_)
 ·obtain⟨x,a1,a2,lf,sg,rows,fo,fm,r1,r2,rfl,_⟩:=h
  rfl
 ·obtain⟨x,a1,a2,lf,sg,rows,fo,fm,r1,r2,rfl,hP,h1,h2,hS1,hS2,hl1,hl2,hO,hf,k⟩:=h
  have row0:∀{rs:List Str},lenB rs=true->∃r0,rs[0]? =some r0/\r0.cps.size=wid rs:=λ{rs} h=>by
   obtain⟨hne,hw⟩:=q2j.mp h
   have h0:=List.length_pos_iff.mpr hne
   exact⟨_,List.getElem?_eq_getElem h0,hw _ (List.getElem_mem h0)⟩
  have cat:∀{rs:List Str} {r:Str} {k c:Nat},lenB rs=true->Sm2 rs->rs[k]? =some r->c<wid rs->∃d,r.cps.toList[c]? =some d/\(q6k rs c)[k]? =some d/\r.cps.size<=1000:=λ{rs r k c} hl hS hr hc=>by
   have hw:=(q2j.mp hl).2 r (List.mem_of_getElem? hr)
   have hc':c<r.cps.toList.length:=by rw[Array.length_toList,hw];exact hc
   refine⟨_,List.getElem?_eq_getElem hc',?_,Nat.le_trans (hS.2 r (List.mem_of_getElem? hr)) (by decide)⟩
   show(rs.map λr=>r.cps.toList.getD c 0)[k]? =_
   rw[List.getElem?_map,hr]
   show some (r.cps.toList.getD c 0)=_
   rw[q0u (List.getElem?_eq_getElem hc')]
  have hw1:=hS1.wid hl1
  have hw2:=hS2.wid hl2
  have z1:=hS1.1
  have z2:=hS2.1
  obtain⟨q1,hq1,hqs1⟩:=row0 hl1
  obtain⟨q2,hq2,hqs2⟩:=row0 hl2
  have inK:∀{rs:List Str} {c:Nat},lenB rs=true->c<wid rs->(∀r∈rs,Of (knS sg) r)->∀a∈q6k rs c,a∈(knS sg).cps.toList:=λ{rs c} hl hc ho a ha=>by
   obtain⟨r,hr,rfl⟩:=List.mem_map.mp (show a∈rs.map λr=>r.cps.toList.getD c 0 from ha)
   have hc':c<r.cps.toList.length:=by rw[Array.length_toList,(q2j.mp hl).2 r hr];exact hc
   rw[q0u (List.getElem?_eq_getElem hc')]
   exact ho r hr _ (List.getElem_mem hc')
  refine⟨_,(q0c (q6l (i:=4) (N:=["_law_k","_law_ones"]) q1o.nd rfl (Or.inl rfl) rfl (CompSc.freeB (nt:=1) (ix:=[1]) rfl (by decide +kernel) (by decide +kernel) (by kernel_rfl) rfl (by kernel_rfl)) (q1s rfl T.z_range (q0a (q0i (q0l) rfl T.z_len q0y (q0a (q0w q0o (pv 1) q0e (λ_ _=>rfl)) q0b)) q0b)) (λ_ _ _ _ _ _ _=>(q0m (i:=0) (show(["_law_k","_law_ones"]:List Str).Nodup by decide +kernel) rfl (Or.inr rfl))) (λ_ _ _ _ _ _ _=>(q2f (N:=["_law_row","_law_k"]) rfl (CompSc.freeB (nt:=1) (ix:=[0]) rfl (by decide +kernel) (by decide +kernel) (by kernel_rfl) rfl (by kernel_rfl)) (pi_listK (K':=K) rfl (pv 1)) (λ_ _ _ _ _ _ _=>(q0m (i:=0) (show(["_law_row","_law_k"]:List Str).Nodup by decide +kernel) rfl (Or.inl rfl))) (λ_ _ _ _ _ _ _=>(q0w q8r (pv 0) (pv 1) (λ_ _=>rfl))))))
   (q0c (q6l (i:=5) (N:=["_law_k","_law_others"]) q1o.nd rfl (Or.inl rfl) rfl (CompSc.freeB (nt:=1) (ix:=[2]) rfl (by decide +kernel) (by decide +kernel) (by kernel_rfl) rfl (by kernel_rfl)) (q1s rfl T.z_range (q0a (q0i (q0l) rfl T.z_len q0y (q0a (q0w q0o (pv 2) q0e (λ_ _=>rfl)) q0b)) q0b)) (λ_ _ _ _ _ _ _=>(q0m (i:=0) (show(["_law_k","_law_others"]:List Str).Nodup by decide +kernel) rfl (Or.inr rfl))) (λ_ _ _ _ _ _ _=>(q2f (N:=["_law_row","_law_k"]) rfl (CompSc.freeB (nt:=1) (ix:=[0]) rfl (by decide +kernel) (by decide +kernel) (by kernel_rfl) rfl (by kernel_rfl)) (pi_listK (K':=K) rfl (pv 1)) (λ_ _ _ _ _ _ _=>(q0m (i:=0) (show(["_law_row","_law_k"]:List Str).Nodup by decide +kernel) rfl (Or.inl rfl))) (λ_ _ _ _ _ _ _=>(q0w q8r (pv 0) (pv 1) (λ_ _=>rfl))))))
   (q0c (q0n (i:=6) q1o.nd rfl (Or.inl rfl) (q0p op_rep (q4p (q0a q2t q0b)) (q0i (q0l) rfl T.z_len q0y (q0a (pv 1) q0b))))
   (q0c (q0n (i:=7) q1o.nd rfl (Or.inl rfl) (q0p op_rep (q4p (q0a q2t q0b)) (q0i (q0l) rfl T.z_len q0y (q0a (pv 2) q0b))))
   (q0c (q1n PassesOwn.never rfl (q1s rfl T.z_range (q0a (q0p q1j (q0i (q0l) rfl T.z_len q0y (q0a (pv 4) q0b)) q0e) q0b)) (q0m (i:=8) q1o.nd rfl (Or.inl rfl)) (q0d (q1n PassesOwn.never rfl (q1s rfl T.z_range (q0a (q0p q1j (q0i (q0l) rfl T.z_len q0y (q0a (pv 5) q0b)) q0e) q0b)) (q0m (i:=9) q1o.nd rfl (Or.inl rfl)) (q0c (q0n (i:=10) q1o.nd rfl (Or.inl rfl) (q0w q0o (q0w q0o (pv 3) (pv 8) (λ_ _=>rfl)) (pv 9) (λ_ _=>rfl)))
   (q1x (q2h (q0v op_lt (pv 8) (q0i (q0l) rfl T.z_len q0y (q0a (pv 4) q0b)) (q1e _)) (q0d (q2h (q0v op_gt (q0w q0o (q0w q0o (pv 3) (q0p q1j (pv 8) q0e) (λ_ _=>rfl)) (pv 9) (λ_ _=>rfl)) (q0p q1j (pv 10) (q0h G_law_between (hr.mono (by decide)) rfl D_law_between.m D_law_between.fn.kp D_law_between.b .nil q0t (q0a (pv 0) (q0a (q0w q0o (pv 4) (pv 8) (λ_ _=>rfl)) (q0a (pv 7) q0b))))) (q1e _)) (q0d (q0r z0j)) q1a)) q1a)
   (q1x (q2h (q0v op_lt (pv 9) (q0i (q0l) rfl T.z_len q0y (q0a (pv 5) q0b)) (q1e _)) (q0d (q2h (q0v op_gt (q0w q0o (q0w q0o (pv 3) (pv 8) (λ_ _=>rfl)) (q0p q1j (pv 9) q0e) (λ_ _=>rfl)) (q0p q1j (pv 10) (q0h G_law_between (hr.mono (by decide)) rfl D_law_between.m D_law_between.fn.kp D_law_between.b .nil q0t (q0a (pv 0) (q0a (pv 6) (q0a (q0w q0o (pv 5) (pv 9) (λ_ _=>rfl)) q0b))))) (q1e _)) (q0d (q0r z0j)) q1a)) q1a)
   (q0d (q2h (PW.pt (pw_and (q0v op_lt (pv 8) (q0i (q0l) rfl T.z_len q0y (q0a (pv 4) q0b)) (q1e _)) (z5b (q0v op_lt (pv 9) (q0i (q0l) rfl T.z_len q0y (q0a (pv 5) q0b)) (q1e _))))) (q0c (q0n (i:=11) q1o.nd rfl (Or.inl rfl) (q0h G_law_between (hr.mono (by decide)) rfl D_law_between.m D_law_between.fn.kp D_law_between.b .nil q0t (q0a (pv 0) (q0a (q0w q0o (pv 4) (pv 8) (λ_ _=>rfl)) (q0a (q0w q0o (pv 5) (pv 9) (λ_ _=>rfl)) q0b)))))
   (q0d (q2h (q0v op_gt (q0w q0o (q0w q0o (pv 3) (q0p q1j (pv 8) q0e) (λ_ _=>rfl)) (q0p q1j (pv 9) q0e) (λ_ _=>rfl)) (q0p q1j (pv 10) (pv 11)) (q1e _)) (q0d (q0r z0j)) q1a))) q1a))))))))
   (q0d (q0r z0j))))))),?_⟩
  refine⟨_,rfl,a1,_,_,.str q1,rfl,rfl,SqL.of h1,q0q (j:=0) (by rw[List.getElem?_map,hq1];rfl),_,_,rfl,⟨Nat.le_trans (show q1.cps.size<=100 by omega) (by decide),rfl⟩,((wid r1:Nat):Int),(by rw[←hqs1];rfl),by omega,by omega,λlL hlL=>?_⟩
  refine cm_refs (wid r1) (λc=>.lst ((q6k r1 c).map L2.sg)) hlL (Nat.lt_of_le_of_lt (show wid r1<=1000 by omega) (by decide)) (λc H2 s2 hc=>?_) (λH2 s2=>?_) (λc y H2 H3 R s2 hc hy hR=>?_) λH2 rL s2 hrL hL hLr=>?_
  ·show c<((wid r1:Nat):Int).toNat
   omega
  ·show((wid r1:Nat):Int).toNat<=wid r1
   omega
  ·obtain⟨rfl,rfl⟩:=hy
   refine⟨Kp.set0,?_⟩
   refine⟨_,rfl,a1,rfl,⟨_,SqL.of (s2 _ _ h1)⟩,λl3 hl3=>?_⟩
   refine q4q r1.length (λi=>L2.sg ((q6k r1 c).getD i 0)) hl3 (Nat.lt_of_le_of_lt (show r1.length<=1000 by omega) (by decide)) (λj H4 s4 hj=>?_) (λH4 s4=>?_) (λj y H4 H5 R2 s4 hj hy hR2=>?_) λH4 s4 hl4=>?_
   ·exact⟨_,_,SqL.of ((s2.trans s4) _ _ h1),by rw[List.getElem?_map,List.getElem?_eq_getElem hj];rfl⟩
   ·exact⟨_,SqL.of ((s2.trans s4) _ _ h1),by rw[List.length_map];exact Nat.le_refl _⟩
   ·obtain⟨rfl,hy⟩:=hy
    have ey:=hy _ (SqL.of ((s2.trans s4) _ _ h1))
    rw[List.getElem?_map,List.getElem?_eq_getElem hj]at ey
    cases ey
    obtain⟨d,e1,e2,e3⟩:=cat hl1 hS1 (List.getElem?_eq_getElem hj) hc
    rw[q0u e2]at hR2
    exact⟨Kp.set0,_,rfl,_,rfl,_,_,d,rfl,rfl,Nat.le_trans e3 (by decide),(by rw[Int.zero_add];exact q0q e1),hR2 _ (Same.refl _)⟩
   ·refine hR l3 H4 s4 hl3 ?_
    rw[hl4]
    have e:=q1f (d:=0) (q6k r1 c) L2.sg
    rw[show(q6k r1 c).length=r1.length from List.length_map ..]at e
    rw[e]
  have s2':=s2
  refine⟨_,rfl,a2,_,_,.str q2,rfl,rfl,SqL.of (s2 _ _ h2),q0q (j:=0) (by rw[List.getElem?_map,hq2];rfl),_,_,rfl,⟨Nat.le_trans (show q2.cps.size<=100 by omega) (by decide),rfl⟩,((wid r2:Nat):Int),(by rw[←hqs2];rfl),by omega,by omega,λlR hlR=>?_⟩
  refine cm_refs (wid r2) (λc=>.lst ((q6k r2 c).map L2.sg)) hlR (Nat.lt_of_le_of_lt (show wid r2<=1000 by omega) (by decide)) (λc H3 s3 hc=>?_) (λH3 s3=>?_) (λc y H3 H4 R s3 hc hy hR=>?_) λH3 rR s3 hrR hR hRr=>?_
  ·show c<((wid r2:Nat):Int).toNat
   omega
  ·show((wid r2:Nat):Int).toNat<=wid r2
   omega
  ·obtain⟨rfl,rfl⟩:=hy
   refine⟨Kp.set0,?_⟩
   have h2':=(s2.trans s3) _ _ h2
   refine⟨_,rfl,a2,rfl,⟨_,SqL.of h2'⟩,λl3 hl3=>?_⟩
   refine q4q r2.length (λi=>L2.sg ((q6k r2 c).getD i 0)) hl3 (Nat.lt_of_le_of_lt (show r2.length<=1000 by omega) (by decide)) (λj H4 s4 hj=>?_) (λH4 s4=>?_) (λj y H4 H5 R2 s4 hj hy hR2=>?_) λH4 s4 hl4=>?_
   ·exact⟨_,_,SqL.of (s4 _ _ h2'),by rw[List.getElem?_map,List.getElem?_eq_getElem hj];rfl⟩
   ·exact⟨_,SqL.of (s4 _ _ h2'),by rw[List.length_map];exact Nat.le_refl _⟩
   ·obtain⟨rfl,hy⟩:=hy
    have ey:=hy _ (SqL.of (s4 _ _ h2'))
    rw[List.getElem?_map,List.getElem?_eq_getElem hj]at ey
    cases ey
    obtain⟨d,e1,e2,e3⟩:=cat hl2 hS2 (List.getElem?_eq_getElem hj) hc
    rw[q0u e2]at hR2
    exact⟨Kp.set0,_,rfl,_,rfl,_,_,d,rfl,rfl,Nat.le_trans e3 (by decide),(by rw[Int.zero_add];exact q0q e1),hR2 _ (Same.refl _)⟩
   ·refine hR l3 H4 s4 hl3 ?_
    rw[hl4]
    have e:=q1f (d:=0) (q6k r2 c) L2.sg
    rw[show(q6k r2 c).length=r2.length from List.length_map ..]at e
    rw[e]
  have h13:=(s2.trans s3) _ _ h1
  have h23:=(s2.trans s3) _ _ h2
  have eg:∀n:Nat,(List.replicate n [V.str (Str.ofString "-")]).flatten=(List.replicate n 45).map L2.sg:=λn=>by
   rw[z1u,List.map_replicate,show L2.sg 45=V.str (Str.ofString "-") by decide +kernel]
  refine⟨by show 1<=sizeLine;decide,λg0 hg0=>?_⟩
  refine⟨_,rfl,_,_,rfl,.inl ⟨_,SqL.of (Same.upd hg0 _ _ h13),rfl⟩,g0,_,_,rfl,rfl,upd_same,?_,?_,?_,λlg hlg=>?_⟩
  ·rw[List.length_map];omega
  ·rw[List.length_map];omega
  ·rw[List.length_map]
   show 1*((r1.length:Nat):Int).toNat<=sizeLine
   exact Nat.le_trans (show _<=1000 by omega) (by decide)
  rw[List.length_map,show((r1.length:Nat):Int).toNat=r1.length by omega,eg]
  have s4:Same H3 (upd (upd H3 g0 (.lst [.str (Str.ofString "-")])) lg (.lst ((List.replicate r1.length 45).map L2.sg))):=(Same.upd hg0).trans (Same.upd hlg)
  have hlg4:upd (upd H3 g0 (.lst [.str (Str.ofString "-")])) lg (.lst ((List.replicate r1.length 45).map L2.sg)) lg=some (.lst ((List.replicate r1.length 45).map L2.sg)):=upd_same
  generalize upd (upd H3 g0 (.lst [.str (Str.ofString "-")])) lg (.lst ((List.replicate r1.length 45).map L2.sg))=H4 at s4 hlg4 ⊢
  refine⟨by show 1<=sizeLine;decide,λg1 hg1=>?_⟩
  refine⟨_,rfl,_,_,rfl,.inl ⟨_,SqL.of (Same.upd hg1 _ _ (s4 _ _ h23)),rfl⟩,g1,_,_,rfl,rfl,upd_same,?_,?_,?_,λlb hlb=>?_⟩
  ·rw[List.length_map];omega
  ·rw[List.length_map];omega
  ·rw[List.length_map]
   show 1*((r2.length:Nat):Int).toNat<=sizeLine
   exact Nat.le_trans (show _<=1000 by omega) (by decide)
  rw[List.length_map,show((r2.length:Nat):Int).toNat=r2.length by omega,eg]
  have s5:Same H4 (upd (upd H4 g1 (.lst [.str (Str.ofString "-")])) lb (.lst ((List.replicate r2.length 45).map L2.sg))):=(Same.upd hg1).trans (Same.upd hlb)
  have hlb5:upd (upd H4 g1 (.lst [.str (Str.ofString "-")])) lb (.lst ((List.replicate r2.length 45).map L2.sg)) lb=some (.lst ((List.replicate r2.length 45).map L2.sg)):=upd_same
  generalize upd (upd H4 g1 (.lst [.str (Str.ofString "-")])) lb (.lst ((List.replicate r2.length 45).map L2.sg))=H5 at s5 hlb5 ⊢
  have s05:=(s2.trans s3).trans (s4.trans s5)
  have hL5:=(s3.trans (s4.trans s5)) _ _ hL
  have hR5:=(s4.trans s5) _ _ hR
  have hLr5:∀i r,rL[i]? =some r->H5 r=some (.lst ((q6k r1 i).map L2.sg)):=λi r hr=>(s3.trans (s4.trans s5)) _ _ (hLr i r hr)
  have hRr5:∀i r,rR[i]? =some r->H5 r=some (.lst ((q6k r2 i).map L2.sg)):=λi r hr=>(s4.trans s5) _ _ (hRr i r hr)
  have hlg5:=s5 _ _ hlg4
  have hP5:=hP.same s05
  obtain⟨F,hF1,hF2,hF3⟩:=(hf.same s05).at_
  have e1:(rL.map V.ref).length=wid r1:=by rw[List.length_map,hrL]
  have e2:(rR.map V.ref).length=wid r2:=by rw[List.length_map,hrR]
  have gK:∀n:Nat,∀a∈List.replicate n 45,a∈(knS sg).cps.toList:=λn a ha=>q5s.mpr (.inl (List.eq_of_mem_replicate ha))
  refine⟨_,rfl,_,_,rfl,.inl ⟨_,SqL.of hL5,rfl⟩,_,_,rfl,rfl,((wid r1+1:Nat):Int),(by rw[e1];rfl),by omega,by omega,?_⟩
  refine q2w (lo:=0) (n:=((wid r1+1:Nat):Int).toNat) (λi σ H6=>∃(v8 v9 v10 v11:Option V),σ=[some (.ref x),some (.ref a1),some (.ref a2),some (.ref lf),some (.ref lL),some (.ref lR),some (.ref lg),some (.ref lb),v8,v9,v10,v11]/\Same H5 H6) ⟨_,_,_,_,rfl,Same.refl _⟩ ?_ ?_
  ·rintro i σ H6 hi ⟨v8,v9,v10,v11,rfl,s6⟩
   have hi':i<wid r1+1:=by omega
   refine⟨_,rfl,_,_,rfl,.inl ⟨_,SqL.of (s6 _ _ hR5),rfl⟩,_,_,rfl,rfl,((wid r2+1:Nat):Int),(by rw[e2];rfl),by omega,by omega,?_⟩
   refine q2w (lo:=0) (n:=((wid r2+1:Nat):Int).toNat) (λj σ H7=>∃(v9 v10 v11:Option V),σ=[some (.ref x),some (.ref a1),some (.ref a2),some (.ref lf),some (.ref lL),some (.ref lR),some (.ref lg),some (.ref lb),some (.int (0+(i:Int))),v9,v10,v11]/\Same H5 H7) ⟨_,_,_,rfl,s6⟩ ?_ ?_
   ·rintro j σ H7 hj ⟨v9,v10,v11,rfl,s7⟩
    have hj':j<wid r2+1:=by omega
    obtain⟨ri,hri,hrow⟩:=hF3 i hi'
    refine⟨_,rfl,_,rfl,lf,_,_,.ref ri,rfl,rfl,SqL.of (s7 _ _ hF1),(by rw[Int.zero_add];exact q0q hri),_,rfl,ri,_,_,.int (ppF sg rows fo fm r1 r2 i j),rfl,rfl,SqL.of (s7 _ _ hrow),(by rw[Int.zero_add];exact q0q (q1k hj')),?_⟩
    refine⟨λσ' H'=>Same H5 H'/\∃v11,σ'=[some (.ref x),some (.ref a1),some (.ref a2),some (.ref lf),some (.ref lL),some (.ref lR),some (.ref lg),some (.ref lb),some (.int (0+(i:Int))),some (.int (0+(j:Int))),some (.int (ppF sg rows fo fm r1 r2 i j)),v11],?_,?_⟩
    ·refine⟨_,rfl,_,rfl,_,_,rfl,.inl ⟨_,SqL.of (s7 _ _ hL5),rfl⟩,_,_,rfl,rfl,_,rfl,?_⟩
     rw[e1]
     refine q2n (λhc=>?_) (λhc=>?_)
     ·have hi2:i<wid r1:=by omega
      obtain⟨r',hr',hrow'⟩:=hF3 (i+1) (by omega)
      have hlt:i<rL.length:=by omega
      have hl1':=List.getElem?_eq_getElem hlt
      refine⟨_,rfl,_,rfl,_,_,rfl,rfl,lf,_,_,.ref r',rfl,rfl,SqL.of (s7 _ _ hF1),(by rw[Int.zero_add];exact q0q (j:=i+1) hr'),_,rfl,r',_,_,.int (ppF sg rows fo fm r1 r2 (i+1) j),rfl,rfl,SqL.of (s7 _ _ hrow'),(by rw[Int.zero_add];exact q0q (q1k hj')),?_⟩
      refine⟨_,rfl,_,rfl,_,rfl,_,rfl,lL,_,_,.ref rL[i],rfl,rfl,SqL.of (s7 _ _ hL5),(by rw[Int.zero_add];exact q0q (by rw[List.getElem?_map,hl1'];rfl)),_,rfl,x,rL[i],lb,sg,rows,fo,fm,q6k r1 i,List.replicate r2.length 45,rfl,hP5.same s7,s7 _ _ (hLr5 i _ hl1'),s7 _ _ hlb5,inK hl1 hi2 (λr hr=>hO r (List.mem_append_left _ hr)),gK _,λH8 s8=>⟨_,_,rfl,rfl,_,_,rfl,rfl,_,rfl,?_⟩⟩
      refine q2n (λz=>absurd z ?_) (λ_=>⟨s7.trans s8,_,rfl⟩)
      exact Int.not_lt.mpr (ppF_a hi2 (by omega))
     ·exact⟨s7,_,rfl⟩
    rintro σ' H8 ⟨s8,v11',rfl⟩
    refine⟨λσ' H'=>Same H5 H'/\∃v11,σ'=[some (.ref x),some (.ref a1),some (.ref a2),some (.ref lf),some (.ref lL),some (.ref lR),some (.ref lg),some (.ref lb),some (.int (0+(i:Int))),some (.int (0+(j:Int))),some (.int (ppF sg rows fo fm r1 r2 i j)),v11],?_,?_⟩
    ·refine⟨_,rfl,_,rfl,_,_,rfl,.inl ⟨_,SqL.of (s8 _ _ hR5),rfl⟩,_,_,rfl,rfl,_,rfl,?_⟩
     rw[e2]
     refine q2n (λhc=>?_) (λhc=>?_)
     ·have hj2:j<wid r2:=by omega
      have hlt:j<rR.length:=by omega
      have hl2':=List.getElem?_eq_getElem hlt
      refine⟨_,rfl,_,rfl,lf,_,_,.ref ri,rfl,rfl,SqL.of (s8 _ _ hF1),(by rw[Int.zero_add];exact q0q hri),_,rfl,_,_,rfl,rfl,ri,_,_,.int (ppF sg rows fo fm r1 r2 i (j+1)),rfl,rfl,SqL.of (s8 _ _ hrow),(by rw[Int.zero_add];exact q0q (j:=j+1) (q1k (by omega))),?_⟩
      refine⟨_,rfl,_,rfl,_,rfl,_,rfl,_,rfl,lR,_,_,.ref rR[j],rfl,rfl,SqL.of (s8 _ _ hR5),(by rw[Int.zero_add];exact q0q (by rw[List.getElem?_map,hl2'];rfl)),x,lg,rR[j],sg,rows,fo,fm,List.replicate r1.length 45,q6k r2 j,rfl,hP5.same s8,s8 _ _ hlg5,s8 _ _ (hRr5 j _ hl2'),gK _,inK hl2 hj2 (λr hr=>hO r (List.mem_append_right _ hr)),λH9 s9=>⟨_,_,rfl,rfl,_,_,rfl,rfl,_,rfl,?_⟩⟩
      refine q2n (λz=>absurd z ?_) (λ_=>⟨s8.trans s9,_,rfl⟩)
      exact Int.not_lt.mpr (ppF_b (by omega) hj2)
     ·exact⟨s8,_,rfl⟩
    rintro σ' H9 ⟨s9,v11'',rfl⟩
    refine⟨_,rfl,_,rfl,_,_,rfl,.inl ⟨_,SqL.of (s9 _ _ hL5),rfl⟩,_,_,rfl,rfl,_,rfl,?_⟩
    rw[e1]
    by_cases hi2:i<wid r1
    ·rw[decide_eq_true (show 0+(i:Int)<((wid r1:Nat):Int) by omega)]
     refine z3x ⟨_,rfl,_,rfl,_,_,rfl,.inl ⟨_,SqL.of (s9 _ _ hR5),rfl⟩,_,_,rfl,rfl,_,rfl,?_⟩
     rw[e2]
     refine q2n (λhc=>?_) (λhc=>?_)
     ·have hj2:j<wid r2:=by omega
      obtain⟨r',hr',hrow'⟩:=hF3 (i+1) (by omega)
      have hlt:i<rL.length:=by omega
      have hl1':=List.getElem?_eq_getElem hlt
      have hlt2:j<rR.length:=by omega
      have hl2':=List.getElem?_eq_getElem hlt2
      refine⟨_,rfl,_,rfl,_,rfl,lL,_,_,.ref rL[i],rfl,rfl,SqL.of (s9 _ _ hL5),(by rw[Int.zero_add];exact q0q (by rw[List.getElem?_map,hl1'];rfl)),_,rfl,_,rfl,lR,_,_,.ref rR[j],rfl,rfl,SqL.of (s9 _ _ hR5),(by rw[Int.zero_add];exact q0q (by rw[List.getElem?_map,hl2'];rfl)),x,rL[i],rR[j],sg,rows,fo,fm,q6k r1 i,q6k r2 j,rfl,hP5.same s9,s9 _ _ (hLr5 i _ hl1'),s9 _ _ (hRr5 j _ hl2'),inK hl1 hi2 (λr hr=>hO r (List.mem_append_left _ hr)),inK hl2 hj2 (λr hr=>hO r (List.mem_append_right _ hr)),λH10 s10=>?_⟩
      refine⟨_,rfl,_,rfl,_,_,rfl,rfl,lf,_,_,.ref r',rfl,rfl,SqL.of ((s9.trans s10) _ _ hF1),(by rw[Int.zero_add];exact q0q (j:=i+1) hr'),_,rfl,_,_,rfl,rfl,r',_,_,.int (ppF sg rows fo fm r1 r2 (i+1) (j+1)),rfl,rfl,SqL.of ((s9.trans s10) _ _ hrow'),(by rw[Int.zero_add];exact q0q (j:=j+1) (q1k (by omega))),_,rfl,_,rfl,_,_,rfl,rfl,_,_,rfl,rfl,_,rfl,?_⟩
      refine q2n (λz=>absurd z ?_) (λ_=>⟨_,_,_,rfl,s9.trans s10⟩)
      exact Int.not_lt.mpr (ppF_p hi2 hj2)
     ·exact⟨_,_,_,rfl,s9⟩
    ·rw[decide_eq_false (show ¬ 0+(i:Int)<((wid r1:Nat):Int) by omega)]
     exact z1x (z1x ⟨_,_,_,rfl,s9⟩)
   ·rintro σ H7 ⟨v9,v10,v11,rfl,s7⟩
    exact⟨_,_,_,_,rfl,s7⟩
  ·rintro σ H6 ⟨v8,v9,v10,v11,rfl,s6⟩
   exact k H6 (s05.trans s6)
theorem z3p {f_law_refused f_join_paper:Addr} {fd_law_refused fd_join_paper:FuncData} {p:Pm} (T:Txt K mg p w) (D_law_refused:Dn K mg "_law_refused" q4y ["_law_prices_here","_law_one","_law_other"] f_law_refused fd_law_refused) (D_join_paper:Dn K mg "join_paper" q4o ["prices","one","other"] f_join_paper fd_join_paper) (G_join_paper:FnOk P w K mg base (CXs P w) 8 f_join_paper fd_join_paper ["prices","one","other"] (spPaper K p.C_Prices p.C_Block p.C_NoSign)):FnOk P w K mg base CX0 10 f_law_refused fd_law_refused ["_law_prices_here","_law_one","_law_other"] (spRefJ K p.C_Prices p.C_Block):=by
 refine D_law_refused.fn.ok q4g (λvs H Q E h=>?_) (λcdv A outer s H vs Q E hr h=>?_)
 ·obtain⟨x,o1,o2,sg,rows,fo,fm,r1,r2,i,j,rfl,_⟩:=h
  rfl
 ·obtain⟨x,o1,o2,sg,rows,fo,fm,r1,r2,i,j,rfl,hP,hB1,hB2,hS1,hS2,hb1,hb2,hB,kk⟩:=h
  refine⟨_,(q0c (q0n (i:=3) q4g.nd rfl (Or.inl rfl) pe_non)
   (q1x (ps_try fm_nox (λ_ _ _ LT PO=>(q0d (q1r (pe_callX G_join_paper (hr.mono (by decide)) rfl D_join_paper.m D_join_paper.fn.kp D_join_paper.b .nil LT (q0a (pv 0) (q0a (pv 1) (q0a (pv 2) q0b))))))) (ph_as (i:=4) q4g.nd rfl rfl rfl T.mg_NoSign T.xb_NoSign (λea=>(q0d (q0n (i:=3) q4g.nd rfl (Or.inl rfl) (q7t (q0a (pe_fldEK (K':=K) rfl (pv 4) rfl) (q0a (pe_fldEK (K':=K) rfl (pv 4) rfl) q0b)))))) ph_nil))
   (q0d (q0r (pv 3))))),?_⟩
  refine⟨λσ' H'=>Same H H'/\∃q v4,σ'=[some (.ref x),some (.ref o1),some (.ref o2),some (.ref q),v4]/\H' q=some (.tup [.int (i:Int),.int (j:Int)]),?_,?_⟩
  ·refine⟨_,rfl,_,rfl,_,rfl,x,o1,o2,sg,rows,fo,fm,r1,r2,rfl,hP,hB1,hB2,hS1,hS2,hb1,hb2,λz=>absurd z hB.no,λi' j' hB' dx H2 s2 hd=>?_⟩
   obtain⟨rfl,rfl⟩:=hB.uniq hB'
   refine⟨_,_,rfl,T.ks_NoSign_NoSign,z3x λea hea=>?_⟩
   have he3:upd H2 ea (exO ea (.ref p.C_NoSign) (some dx)) ea=some (exO ea (.ref p.C_NoSign) (some dx)):=upd_same
   have hd3:upd H2 ea (exO ea (.ref p.C_NoSign) (some dx)) dx=some (xdO dx (fldS i j)):=Same.upd hea _ _ hd
   have s3:Same H2 (upd H2 ea (exO ea (.ref p.C_NoSign) (some dx))):=Same.upd hea
   refine⟨_,rfl,ea,_,dx,_,_,rfl,he3,hd3,T.xt_NoSign,T.n_NoSign_row,fldS_row,_,rfl,ea,_,dx,_,_,rfl,he3,hd3,T.xt_NoSign,T.n_NoSign_place,fldS_place,by show 2<=sizeLine;decide,λt1 ht1=>?_⟩
   exact⟨(s2.trans s3).trans (Same.upd ht1),t1,_,rfl,upd_same⟩
  rintro σ' H1 ⟨s1,q,v4,rfl,hq⟩
  exact⟨_,rfl,kk q H1 s1 hq⟩
end
section
variable{P:Program}{w:World}{K:PySem.W.Frag}{mg:Str->Option Value}{base:Heap}
theorem ok_law_round {f_law_round f_law_next f_law_signs f_law_prices f_law_rows f_Block___init__ f_joined f_law_cost f_join_paper f_law_square f_law_walked f_law_with f_law_refused:Addr} {fd_law_round fd_law_next fd_law_signs fd_law_prices fd_law_rows fd_Block___init__ fd_joined fd_law_cost fd_join_paper fd_law_square fd_law_walked fd_law_with fd_law_refused:FuncData} {p:Pm} (T:Txt K mg p w) (D_law_round:Dn K mg "_law_round" q6x ["_law_script","_law_at"] f_law_round fd_law_round) (D_law_next:Dn K mg "_law_next" q4e ["_law_script","_law_at"] f_law_next fd_law_next) (G_law_next:FnOk P w K mg base CX0 1 f_law_next fd_law_next ["_law_script","_law_at"] (spNext K)) (D_law_signs:Dn K mg "_law_signs" q6w ["_law_script","_law_at","_law_many"] f_law_signs fd_law_signs) (G_law_signs:FnOk P w K mg base CX0 2 f_law_signs fd_law_signs ["_law_script","_law_at","_law_many"] (spSignsC K)) (D_law_prices:Dn K mg "_law_prices" q5z ["_law_script","_law_at","_law_signs_here","_law_same"] f_law_prices fd_law_prices) (G_law_prices:FnOk P w K mg base CX0 7 f_law_prices fd_law_prices ["_law_script","_law_at","_law_signs_here","_law_same"] (spPricesC K p.C_Prices)) (D_law_rows:Dn K mg "_law_rows" q8f ["_law_script","_law_at","_law_signs_here","_law_many","_law_columns"] f_law_rows fd_law_rows) (G_law_rows:FnOk P w K mg base CX0 3 f_law_rows fd_law_rows ["_law_script","_law_at","_law_signs_here","_law_many","_law_columns"] (spRowsC K)) (D_Block___init__:Dm K "__init__" "Block.__init__" q1g ["self","rows"] f_Block___init__ fd_Block___init__) (M_Block:Mk K p.C_Block f_Block___init__) (G_Block___init__:FnOk P w K mg base CX0 5 f_Block___init__ fd_Block___init__ ["self","rows"] (nv (spBlock K p.C_Block p.C_NoBlock))) (D_joined:Dn K mg "joined" z1t ["prices","one","other"] f_joined fd_joined) (G_joined:FnOk P w K mg base CX0 8 f_joined fd_joined ["prices","one","other"] (spJoined K p.C_Prices p.C_Block)) (D_law_cost:Dn K mg "_law_cost" q8g ["_law_prices_here","_law_rows_here"] f_law_cost fd_law_cost) (G_law_cost:FnOk P w K mg base CX0 4 f_law_cost fd_law_cost ["_law_prices_here","_law_rows_here"] (spCostC K p.C_Prices)) (D_join_paper:Dn K mg "join_paper" q4o ["prices","one","other"] f_join_paper fd_join_paper) (G_join_paper:FnOk P w K mg base CX0 8 f_join_paper fd_join_paper ["prices","one","other"] (nv (spPaper K p.C_Prices p.C_Block p.C_NoSign))) (D_law_square:Dn K mg "_law_square" q5y ["_law_found","_law_high","_law_wide"] f_law_square fd_law_square) (G_law_square:FnOk P w K mg base CX0 2 f_law_square fd_law_square ["_law_found","_law_high","_law_wide"] spSquare) (D_law_walked:Dn K mg "_law_walked" q5x ["_law_prices_here","_law_ones","_law_others","_law_found"] f_law_walked fd_law_walked) (G_law_walked:FnOk P w K mg base CX0 5 f_law_walked fd_law_walked ["_law_prices_here","_law_ones","_law_others","_law_found"] (spWalkedJ K p.C_Prices)) (D_law_with:Dn K mg "_law_with" q8e ["_law_row","_law_k","_law_thing_here"] f_law_with fd_law_with) (G_law_with:FnOk P w K mg base CX0 1 f_law_with fd_law_with ["_law_row","_law_k","_law_thing_here"] spWith) (D_law_refused:Dn K mg "_law_refused" q4y ["_law_prices_here","_law_one","_law_other"] f_law_refused fd_law_refused) (G_law_refused:FnOk P w K mg base CX0 10 f_law_refused fd_law_refused ["_law_prices_here","_law_one","_law_other"] (spRefJ K p.C_Prices p.C_Block)):FnOk P w K mg base CX0 11 f_law_round fd_law_round ["_law_script","_law_at"] (spRound3 K):=by
 refine D_law_round.fn.ok q0z (λvs H Q E h=>?_) (λcdv A outer s H vs Q E hr h=>?_)
 ·obtain⟨s,t,ns,k,rfl,_⟩:=h
  rfl
 ·obtain⟨s,t,ns,k,rfl,hC,hk,kk⟩:=h
  have k0:=hC.k0
  refine⟨_,(q0c (q0n (i:=2) q0z.nd rfl (Or.inl rfl) (q0h G_law_next (hr.mono (by decide)) rfl D_law_next.m D_law_next.fn.kp D_law_next.b .nil q0t (q0a (pv 0) (q0a (pv 1) q0b))))
   (q1x (q0n (i:=3) q0z.nd rfl (Or.inl rfl) (q0p q1j q0e (q0p q2l (pv 2) q0e)))
   (q1x (q0n (i:=4) q0z.nd rfl (Or.inl rfl) (q0h G_law_signs (hr.mono (by decide)) rfl D_law_signs.m D_law_signs.fn.kp D_law_signs.b .nil q0t (q0a (pv 0) (q0a (pv 1) (q0a (q0p q1j (pv 3) q0e) q0b)))))
   (q1x (q0n (i:=5) q0z.nd rfl (Or.inl rfl) (q0h G_law_prices (hr.mono (by decide)) rfl D_law_prices.m D_law_prices.fn.kp D_law_prices.b .nil q0t (q0a (pv 0) (q0a (pv 1) (q0a (q5f z4f (pv 4) q7b (q7a (pv 3))) (q0a (z5e q7c (q0p q2l (q0p q2u (pv 2) q0e) q0e) q0e (q1e _)) q0b))))))
   (q1x (q0n (i:=6) q0z.nd rfl (Or.inl rfl) (q0h G_law_rows (hr.mono (by decide)) rfl D_law_rows.m D_law_rows.fn.kp D_law_rows.b .nil q0t (q0a (pv 0) (q0a (pv 1) (q0a (q5f z4f (pv 4) q7b (q7a (pv 3))) (q0a (q0p q1j q0e (q0p q2l (q0p q2u (pv 2) q0e) q0e)) (q0a (q0p q2l (q0p q2u (pv 2) q0e) q0e) q0b)))))))
   (q1x (q0n (i:=7) q0z.nd rfl (Or.inl rfl) (q0h G_law_rows (hr.mono (by decide)) rfl D_law_rows.m D_law_rows.fn.kp D_law_rows.b .nil q0t (q0a (pv 0) (q0a (pv 1) (q0a (q5f z4f (pv 4) q7b (q7a (pv 3))) (q0a (q0p q1j q0e (q0p q2l (q0p q2u (pv 2) q0e) q0e)) (q0a (q0p q2l (q0p q2u (pv 2) q0e) q0e) q0b)))))))
   (q1x (q0n (i:=8) q0z.nd rfl (Or.inl rfl) (q7u M_Block G_Block___init__ (hr.mono (by decide)) rfl T.mg_Block D_Block___init__.b .nil q0t (q0a (pv 6) q0b)))
   (q1x (q0n (i:=9) q0z.nd rfl (Or.inl rfl) (q7u M_Block G_Block___init__ (hr.mono (by decide)) rfl T.mg_Block D_Block___init__.b .nil q0t (q0a (pv 7) q0b)))
   (q1x (q0n (i:=10) q0z.nd rfl (Or.inl rfl) (q0h G_law_cost (hr.mono (by decide)) rfl D_law_cost.m D_law_cost.fn.kp D_law_cost.b .nil q0t (q0a (pv 5) (q0a (q7v (call_list_of) rfl T.z_list bo_list (q0a (q1d (q0h G_joined (hr.mono (by decide)) rfl D_joined.m D_joined.fn.kp D_joined.b .nil q0t (q0a (pv 5) (q0a (pv 8) (q0a (pv 9) q0b)))) rfl) q0b)) q0b))))
   (q1x (q1n PassesOwn.never rfl (q1s rfl T.z_range (q0a q0e q0b)) (q0m (i:=11) q0z.nd rfl (Or.inl rfl)) (q0c (q0n (i:=12) q0z.nd rfl (Or.inl rfl) (q0h G_join_paper (hr.mono (by decide)) rfl D_join_paper.m D_join_paper.fn.kp D_join_paper.b .nil q0t (q0a (pv 5) (q0a (pv 8) (q0a (pv 9) q0b)))))
   (q1x (q2h (z0y (q8q (q0h G_law_square (hr.mono (by decide)) rfl D_law_square.m D_law_square.fn.kp D_law_square.b .nil q0t (q0a (pv 12) (q0a (q0i (q0l) rfl T.z_len q0y (q0a (q0w q0o (pv 6) q0e (λ_ _=>rfl)) q0b)) (q0a (q0i (q0l) rfl T.z_len q0y (q0a (q0w q0o (pv 7) q0e (λ_ _=>rfl)) q0b)) q0b)))))) (q0d (q0r z0j)) q1a)
   (q1x (q2h (PW.pt (pw_or (q0v z5g (q0w q0o (q0w q0o (pv 12) q0e (λ_ _=>rfl)) q0e (λ_ _=>rfl)) (q0p q1j (q0h G_law_cost (hr.mono (by decide)) rfl D_law_cost.m D_law_cost.fn.kp D_law_cost.b .nil q0t (q0a (pv 5) (q0a (pv 6) q0b))) (q0h G_law_cost (hr.mono (by decide)) rfl D_law_cost.m D_law_cost.fn.kp D_law_cost.b .nil q0t (q0a (pv 5) (q0a (pv 7) q0b)))) (q1e _)) (pw_or1 (q0v z5g (q0w q0o (q0w q0o (pv 12) (pe_un z2d q0e) (λ_ _=>rfl)) (pe_un z2d q0e) (λ_ _=>rfl)) (pv 10) (q1e _))))) (q0d (q0r z0j)) q1a)
   (q1x (q2h (z0y (q8q (q0h G_law_walked (hr.mono (by decide)) rfl D_law_walked.m D_law_walked.fn.kp D_law_walked.b .nil q0t (q0a (pv 5) (q0a (pv 6) (q0a (pv 7) (q0a (pv 12) q0b))))))) (q0d (q0r z0j)) q1a)
   (q0c (q1r (pe_bm0 PySem.F.plainAttrs_list PySem.F.slot_list_clear PySem.F.type_list_clear mt_clear (q0w q0o (pv 12) q0e (λ_ _=>rfl))))
   (q0d (q1r (z0i PySem.F.plainAttrs_list PySem.F.slot_list_append PySem.F.type_list_append q2v (pv 12) (q0a pe_non q0b))))))))))
   (q1x (q0n (i:=13) q0z.nd rfl (Or.inl rfl) (q0h G_law_next (hr.mono (by decide)) rfl D_law_next.m D_law_next.fn.kp D_law_next.b .nil q0t (q0a (pv 0) (q0a (pv 1) q0b))))
   (q0c (q0n (i:=14) q0z.nd rfl (Or.inl rfl) (q0p op_cat (pv 6) (pv 7)))
   (q1x (q0n (i:=15) q0z.nd rfl (Or.inl rfl) (q0p q2l (pv 13) (q0i (q0l) rfl T.z_len q0y (q0a (pv 14) q0b))))
   (q0c (q2h (q0v op_gt (q0i (q0l) rfl T.z_len q0y (q0a (q0w q0o (pv 14) (pv 15) (λ_ _=>rfl)) q0b)) q0e (q1e _)) (q1x (q0n (i:=16) q0z.nd rfl (Or.inl rfl) (q0p q2l (q0p q2u (pv 13) q0e) (q0i (q0l) rfl T.z_len q0y (q0a (q0w q0o (pv 14) (pv 15) (λ_ _=>rfl)) q0b))))
   (q0c (ps_asg (q0h G_law_with (hr.mono (by decide)) rfl D_law_with.m D_law_with.fn.kp D_law_with.b .nil q0t (q0a (q0w q0o (pv 14) (pv 15) (λ_ _=>rfl)) (q0a (pv 16) (q0a (q0w q8r (pv 4) (pv 3) (λ_ _=>rfl)) q0b)))) (pg_sub (pv 14) (pv 15) z1r))
   (q1x (q0n (i:=8) q0z.nd rfl (Or.inl rfl) (q7u M_Block G_Block___init__ (hr.mono (by decide)) rfl T.mg_Block D_Block___init__.b .nil q0t (q0a (q5f sl_list (pv 14) q7b (q7a (q0i (q0l) rfl T.z_len q0y (q0a (pv 6) q0b)))) q0b)))
   (q0d (q0r (z5e (op_eqT (Nat.lt_of_succ_lt (z3y hr))) (q0h G_law_refused (hr.mono (by decide)) rfl D_law_refused.m D_law_refused.fn.kp D_law_refused.b .nil q0t (q0a (pv 5) (q0a (pv 8) (q0a (q7u M_Block G_Block___init__ (hr.mono (by decide)) rfl T.mg_Block D_Block___init__.b .nil q0t (q0a (q5f sl_list (pv 14) (q7a (q0i (q0l) rfl T.z_len q0y (q0a (pv 6) q0b))) q7b) q0b)) q0b)))) (q7t (q0a (pv 15) (q0a (pv 16) q0b))) (q1e _))))))) q1a)
   (q0d (q0r z0j)))))))))))))))),?_⟩
  refine⟨_,rfl,_,rfl,s,t,ns,k,rfl,hC,by omega,λm hm hm2=>?_⟩
  have C1:Ctr K (upd H t (.lst [.int (k+1)])) s t ns (k+1):=hC.step (by omega)
  have w1:Same (Wo t H) (Wo t (upd H t (.lst [.int (k+1)]))):=by rw[Wo.set];exact Same.refl _
  generalize upd H t (.lst [.int (k+1)])=H1 at C1 w1 ⊢
  have m1:=Int.emod_nonneg m (show(4:Int)≠0 by decide)
  have m2:=Int.emod_lt_of_pos m (show(0:Int)<4 by decide)
  obtain⟨ng,hng⟩:∃ng:Nat,1+m % 4=(ng:Int):=⟨(1+m % 4).toNat,by omega⟩
  refine⟨λσ' H'=>H'=H1/\σ'=[some (.ref s),some (.ref t),some (.int m),some (.int (ng:Int)),none,none,none,none,none,none,none,none,none,none,none,none,none],?_,?_⟩
  ·refine⟨_,rfl,_,_,rfl,rfl,(by show(0:Int)<4;decide),_,_,rfl,rfl,rfl,?_⟩
   rw[←hng]
   rfl
  rintro σ' _ ⟨rfl,rfl⟩
  refine⟨λσ' H'=>∃S:Str,S.cps.size=ng+1/\(∀c∈S.cps.toList,q2g c=true)/\S.cps.toList.Nodup/\Same (Wo t H) (Wo t H')/\H' t=some (.lst [.int (k+2)])/\σ'=[some (.ref s),some (.ref t),some (.int m),some (.int (ng:Int)),some (.str S),none,none,none,none,none,none,none,none,none,none,none,none],?_,?_⟩
  ·refine⟨_,rfl,_,rfl,_,rfl,_,_,rfl,rfl,s,t,ns,k+1,ng+1,rfl,C1,by omega,by omega,λS H2 hS hSs hSn s2=>?_⟩
   have w2:=Wo.step s2
   have ht2:=s2 _ _ upd_same
   exact⟨S,hS,hSs,hSn,w1.trans w2,by rw[ht2,show k+1+1=k+2 by omega],rfl⟩
  rintro σ' H2 ⟨S,hS,hSs,hSn,w2,ht2,rfl⟩
  have C2:Ctr K H2 s t ns (k+2):=hC.off w2 ht2 (by omega)
  have hzS:S.length<=sizeLine:=Nat.le_trans (show S.cps.size<=100 by omega) (by decide)
  obtain⟨sg,hsgE⟩:∃sg,Txt.slice S none (some (ng:Int))=sg:=⟨_,rfl⟩
  have hsg:sg.cps.toList=S.cps.toList.take ng:=by rw[←hsgE];exact slice_up S ng
  have hsz:sg.cps.size=ng:=by rw[←Array.length_toList,hsg,List.length_take,Array.length_toList];omega
  have hsig:∀c∈sg.cps.toList,q2g c=true:=λc hc=>hSs c (by rw[hsg]at hc;exact List.mem_of_mem_take hc)
  have hSg:Signs sg:=⟨by omega,by omega,hsig,by rw[hsg];exact List.Nodup.sublist (List.take_sublist _ _) hSn⟩
  refine⟨λσ' H'=>∃x k3 rows fo fm,PrAt K p.C_Prices (Wo t H') x sg rows fo fm/\Same (Wo t H) (Wo t H')/\H' t=some (.lst [.int k3])/\k<=k3/\k3<=k+300/\σ'=[some (.ref s),some (.ref t),some (.int m),some (.int (ng:Int)),some (.str S),some (.ref x),none,none,none,none,none,none,none,none,none,none,none],?_,?_⟩
  ·refine⟨_,rfl,_,rfl,_,rfl,_,rfl,_,rfl,S,rfl,hzS,_,rfl,_,_,rfl,rfl,⟨by decide,by decide⟩,_,_,rfl,rfl,(by show(0:Int)<2;decide),rfl,s,t,ns,k+2,sg,_,(by rw[←hsgE];rfl),C2,by omega,hSg,by omega,λx H' k' rows fo fm hP hxn w3 ht3 b1 b2=>?_⟩
   exact⟨x,k',rows,fo,fm,hP,w2.trans w3,ht3,by omega,by omega,rfl⟩
  rintro σ' H4 ⟨x,k3,rows,fo,fm,hP,w4,ht4,b1,b2,rfl⟩
  have C4:Ctr K H4 s t ns k3:=hC.off w4 ht4 (by omega)
  obtain⟨n1,hn1⟩:∃n:Nat,1+m / 8 % 3=(n:Int):=⟨(1+m / 8 % 3).toNat,by omega⟩
  obtain⟨w1',hw1'⟩:∃n:Nat,m / 24 % 8=(n:Int):=⟨(m / 24 % 8).toNat,by omega⟩
  refine⟨λσ' H'=>∃(a1:Addr) (r1:List Str) (k':Int),RsOk r1 n1 w1'/\(∀r∈r1,Of (knS sg) r)/\Wo t H' a1=some (.lst (r1.map V.str))/\PrAt K p.C_Prices (Wo t H') x sg rows fo fm/\Same (Wo t H) (Wo t H')/\H' t=some (.lst [.int k'])/\k<=k'/\k'<=k+1300/\σ'=[some (.ref s),some (.ref t),some (.int m),some (.int (ng:Int)),some (.str S),some (.ref x),some (.ref a1),none,none,none,none,none,none,none,none,none,none],?_,?_⟩
  ·refine⟨_,rfl,_,rfl,_,rfl,_,rfl,_,rfl,S,rfl,hzS,_,rfl,_,_,rfl,rfl,⟨by decide,by decide⟩,_,_,rfl,rfl,(by show(0:Int)<3;decide),_,_,rfl,rfl,_,rfl,_,_,rfl,rfl,⟨by decide,by decide⟩,_,_,rfl,rfl,(by show(0:Int)<8;decide),s,t,ns,k3,sg,n1,w1',?_,C4,by omega,by omega,by omega,by omega,by omega,by omega,hsig,λl rs k' H' hR hO hl hln w5 ht5 c1 c2=>?_⟩
   ·show [V.ref s,.ref t,.str (Txt.slice S none (some (ng:Int))),.int (1+m / 8 % 3),.int (m / 24 % 8)]=_
    rw[hn1,hw1',hsgE]
   ·have nlt:l≠t:=λz=>by rw[z,ht4]at hln;cases hln
    exact⟨l,rs,k',hR,hO,Wo.in nlt hl,hP.same w5,w4.trans w5,ht5,by omega,by omega,rfl⟩
  rintro σ' H5 ⟨a1,r1,k4,hR1,hO1,hl1,hP5,w5,ht5,b3,b4,rfl⟩
  have C5:Ctr K H5 s t ns k4:=hC.off w5 ht5 (by omega)
  obtain⟨n2,hn2⟩:∃n:Nat,1+m / 192 % 3=(n:Int):=⟨(1+m / 192 % 3).toNat,by omega⟩
  obtain⟨w2',hw2'⟩:∃n:Nat,m / 576 % 8=(n:Int):=⟨(m / 576 % 8).toNat,by omega⟩
  refine⟨λσ' H'=>∃(a2:Addr) (r2:List Str) (k5:Int),RsOk r2 n2 w2'/\(∀r∈r2,Of (knS sg) r)/\Wo t H' a1=some (.lst (r1.map V.str))/\Wo t H' a2=some (.lst (r2.map V.str))/\PrAt K p.C_Prices (Wo t H') x sg rows fo fm/\Same (Wo t H) (Wo t H')/\H' t=some (.lst [.int k5])/\k<=k5/\k5<=k+2300/\σ'=[some (.ref s),some (.ref t),some (.int m),some (.int (ng:Int)),some (.str S),some (.ref x),some (.ref a1),some (.ref a2),none,none,none,none,none,none,none,none,none],?_,?_⟩
  ·refine⟨_,rfl,_,rfl,_,rfl,_,rfl,_,rfl,S,rfl,hzS,_,rfl,_,_,rfl,rfl,⟨by decide,by decide⟩,_,_,rfl,rfl,(by show(0:Int)<3;decide),_,_,rfl,rfl,_,rfl,_,_,rfl,rfl,⟨by decide,by decide⟩,_,_,rfl,rfl,(by show(0:Int)<8;decide),s,t,ns,k4,sg,n2,w2',?_,C5,by omega,by omega,by omega,by omega,by omega,by omega,hsig,λl rs k' H' hR hO hl hln w6 ht6 c1 c2=>?_⟩
   ·show [V.ref s,.ref t,.str (Txt.slice S none (some (ng:Int))),.int (1+m / 192 % 3),.int (m / 576 % 8)]=_
    rw[hn2,hw2',hsgE]
   ·have nlt:l≠t:=λz=>by rw[z,ht5]at hln;cases hln
    exact⟨l,rs,k',hR,hO,w6 _ _ hl1,Wo.in nlt hl,hP5.same w6,w5.trans w6,ht6,by omega,by omega,rfl⟩
  rintro σ' H6 ⟨a2,r2,k5,hR2,hO2,hl1,hl2,hP6,w6,ht6,b5,b6,rfl⟩
  have hn10:0<n1:=by omega
  have hn20:0<n2:=by omega
  have hok1:=hR1.block hn10
  have hok2:=hR2.block hn20
  have hwd1:=hR1.w hn10
  have hwd2:=hR2.w hn20
  have hln1:=hR1.len
  have hln2:=hR2.len
  have hS1:Sm2 r1:=⟨by omega,λr hr=>by rw[hR1.wid r hr];omega⟩
  have hS2:Sm2 r2:=⟨by omega,λr hr=>by rw[hR2.wid r hr];omega⟩
  have row0:∀{rs:List Str} {n w:Nat},RsOk rs n w->0<n->∃q,rs[0]? =some q/\q.cps.size=w:=λ{rs n w} h hn=>by
   have h0:0<rs.length:=by rw[h.len];exact hn
   exact⟨_,List.getElem?_eq_getElem h0,h.wid _ (List.getElem_mem h0)⟩
  obtain⟨q1,hq1,hqs1⟩:=row0 hR1 hn10
  obtain⟨q2,hq2,hqs2⟩:=row0 hR2 hn20
  rw[←hwd1]at hqs1
  rw[←hwd2]at hqs2
  have hO:∀r∈r1++r2,Of (knS sg) r:=λr hr=>(List.mem_append.mp hr).elim (hO1 r) (hO2 r)
  refine⟨λσ' H'=>∃o1,Wo t H' a1=some (.lst (r1.map V.str))/\Wo t H' a2=some (.lst (r2.map V.str))/\PrAt K p.C_Prices (Wo t H') x sg rows fo fm/\Blk K p.C_Block (Wo t H') o1 r1/\Same (Wo t H) (Wo t H')/\H' t=some (.lst [.int k5])/\σ'=[some (.ref s),some (.ref t),some (.int m),some (.int (ng:Int)),some (.str S),some (.ref x),some (.ref a1),some (.ref a2),some (.ref o1),none,none,none,none,none,none,none,none],?_,?_⟩
  ·refine⟨_,rfl,λo dx ho hdx ndx=>?_⟩
   have s7:Same H6 (upd (upd H6 dx (.own o)) o (.ins p.C_Block dx [])):=Same.at (Same.upd hdx) ho
   refine⟨o,dx,_,r1,rfl,upd_same,⟨a1,rfl,.inl (SqL.of (s7 _ _ (Wo.sub _ _ hl1)))⟩,hS1.sm,λ_ H8 q1 q2=>⟨rfl,?_⟩,λz=>(by rw[hok1]at z;cases z)⟩
   have g2:Same H6 H8:=λc u hc=>q1 _ _ (s7 _ _ hc) (λz=>by rw[z,ho]at hc;cases hc)
   exact⟨o,Wo.same g2 _ _ hl1,Wo.same g2 _ _ hl2,hP6.same (Wo.same g2),q2.wo (g2 _ _ ht6),w6.trans (Wo.same g2),g2 _ _ ht6,rfl⟩
  rintro σ' H7 ⟨o1,hl1,hl2,hP7,hB1,w7,ht7,rfl⟩
  refine⟨λσ' H'=>∃o2,St43 K p.C_Prices p.C_Block H H' t x a1 a2 o1 o2 k5 sg rows fo fm r1 r2/\σ'=[some (.ref s),some (.ref t),some (.int m),some (.int (ng:Int)),some (.str S),some (.ref x),some (.ref a1),some (.ref a2),some (.ref o1),some (.ref o2),none,none,none,none,none,none,none],?_,?_⟩
  ·refine⟨_,rfl,λo dx ho hdx ndx=>?_⟩
   have s7:Same H7 (upd (upd H7 dx (.own o)) o (.ins p.C_Block dx [])):=Same.at (Same.upd hdx) ho
   refine⟨o,dx,_,r2,rfl,upd_same,⟨a2,rfl,.inl (SqL.of (s7 _ _ (Wo.sub _ _ hl2)))⟩,hS2.sm,λ_ H8 q1 q2=>⟨rfl,?_⟩,λz=>(by rw[hok2]at z;cases z)⟩
   have g2:Same H7 H8:=λc u hc=>q1 _ _ (s7 _ _ hc) (λz=>by rw[z,ho]at hc;cases hc)
   exact⟨o,⟨g2 _ _ ht7,hP7.same (Wo.same g2),Wo.same g2 _ _ hl1,Wo.same g2 _ _ hl2,hB1.same (Wo.same g2),q2.wo (g2 _ _ ht7),w7.trans (Wo.same g2)⟩,rfl⟩
  rintro σ' H8 ⟨o2,I8,rfl⟩
  have cA:=z0u hok1 hO1
  have cB:=z0u hok2 hO2
  have kg:45∈(knS sg).cps.toList:=q5s.mpr (.inl rfl)
  obtain⟨En,hEn⟩:∃En,En=ppF sg rows fo fm r1 r2 (wid r1) (wid r2):=⟨_,rfl⟩
  refine⟨λσ' H'=>St43 K p.C_Prices p.C_Block H H' t x a1 a2 o1 o2 k5 sg rows fo fm r1 r2/\σ'=[some (.ref s),some (.ref t),some (.int m),some (.int (ng:Int)),some (.str S),some (.ref x),some (.ref a1),some (.ref a2),some (.ref o1),some (.ref o2),some (.int En),none,none,none,none,none,none],?_,?_⟩
  ·refine⟨_,rfl,_,rfl,_,rfl,_,rfl,x,o1,o2,sg,rows,fo,fm,r1,r2,rfl,I8.prH,I8.b1H,I8.b2H,hS1,hS2,hok1,hok2,hO,λb H9 cs s9 hb9 hF hB9=>?_⟩
   have hF':FstW (exF (pcF sg rows (q0s fo.2 fm.2 rows)) (moF rows fo fm) (cols r1 (wid r1)) (cols r2 (wid r2))) (cols r1 (wid r1)).length (cols r2 (wid r2)).length cs (wid r1) (wid r2):=by rw[q1v,q1v];exact hF
   have hC9:=hF'.path.cols cA cB kg
   obtain⟨t1,t2⟩:=z4b (by omega) hC9
   have hcl:=hF.len
   rw[ppF_end cA cB kg (by omega) hF]at hEn
   have hz:(osF (cols r1 (wid r1)) (cols r2 (wid r2)) (q2d r1.length) (q2d r2.length) cs cs.length).length=cs.length:=by unfold osF;rw[List.length_map,List.length_range]
   generalize hos:osF (cols r1 (wid r1)) (cols r2 (wid r2)) (q2d r1.length) (q2d r2.length) cs cs.length=os at hB9 t1 t2 hz hEn
   obtain⟨dq,q,hbq,hq⟩:=hB9
   refine⟨b,_,dq,_,_,rfl,hbq,T.cl_Block,T.n_Block_rows,q6i,q,_,rfl,.inr hq,λl9 hl9=>?_⟩
   have s10:Same H9 (upd H9 l9 (.lst ((cols os (r1.length+r2.length)).map V.str))):=Same.upd hl9
   refine⟨x,l9,sg,rows,fo,fm,cols os (r1.length+r2.length),rfl,(I8.same (s9.trans s10)).prH,SqL.of upd_same,⟨by rw[q1v];omega,λr hr=>?_⟩,q2x t1,t2,λH11 s11=>⟨I8.same ((s9.trans s10).trans s11),?_⟩⟩
   ·obtain⟨j,_,rfl⟩:=List.mem_map.mp (show r∈(List.range (r1.length+r2.length)).map (colS os) from hr)
    rw[show(colS os j).cps.size=os.length from List.length_map ..]
    omega
   ·rw[←hEn]
    rfl
  rintro σ' H9 ⟨I9,rfl⟩
  refine⟨λσ' H'=>∃v11 v12,St43 K p.C_Prices p.C_Block H H' t x a1 a2 o1 o2 k5 sg rows fo fm r1 r2/\σ'=[some (.ref s),some (.ref t),some (.int m),some (.int (ng:Int)),some (.str S),some (.ref x),some (.ref a1),some (.ref a2),some (.ref o1),some (.ref o2),some (.int En),v11,v12,none,none,none,none],?_,?_⟩
  ·refine⟨2,rfl,by decide,by decide,?_⟩
   refine q2w (lo:=0) (n:=2) (λi σ' H'=>∃v11 v12,St43 K p.C_Prices p.C_Block H H' t x a1 a2 o1 o2 k5 sg rows fo fm r1 r2/\σ'=[some (.ref s),some (.ref t),some (.int m),some (.int (ng:Int)),some (.str S),some (.ref x),some (.ref a1),some (.ref a2),some (.ref o1),some (.ref o2),some (.int En),v11,v12,none,none,none,none]) ⟨_,_,I9,rfl⟩ ?_ (λσ' H' h=>h)
   rintro i σ' H10 hi ⟨v11,v12,I10,rfl⟩
   refine⟨_,rfl,_,rfl,_,rfl,x,o1,o2,sg,rows,fo,fm,r1,r2,rfl,I10.prH,I10.b1H,I10.b2H,hS1,hS2,hok1,hok2,λ_ l H11 s11 hM=>?_,λi j hB=>absurd hO hB.no⟩
   have hok11:=hO
   have I11:=I10.same s11
   refine⟨λσ' H'=>Same H11 H'/\σ'=[some (.ref s),some (.ref t),some (.int m),some (.int (ng:Int)),some (.str S),some (.ref x),some (.ref a1),some (.ref a2),some (.ref o1),some (.ref o2),some (.int En),some (.int (0+(i:Int))),some (.ref l),none,none,none,none],?_,?_⟩
   ·refine⟨_,rfl,_,rfl,a1,_,_,.str q1,rfl,rfl,SqL.of I11.l1H,q0q (j:=0) (by rw[List.getElem?_map,hq1];rfl),_,_,rfl,⟨Nat.le_trans (show q1.cps.size<=100 by omega) (by decide),rfl⟩,_,rfl,a2,_,_,.str q2,rfl,rfl,SqL.of I11.l2H,q0q (j:=0) (by rw[List.getElem?_map,hq2];rfl),_,_,rfl,⟨Nat.le_trans (show q2.cps.size<=100 by omega) (by decide),rfl⟩,l,wid r1,wid r2,_,(by rw[←hqs1,←hqs2];rfl),hM.mat,by omega,by omega,λH12 s12=>⟨_,rfl,z3a ⟨s12,rfl⟩⟩⟩
   rintro σ' H12 ⟨s12,rfl⟩
   obtain⟨rr,hrr,hl0,hfr,hl12,hrow⟩:=hM.same s12
   obtain⟨rr',rl,rfl⟩:∃rr' rl,rr=rr'++[rl]:=by
    rcases List.eq_nil_or_concat rr with h|⟨a,b,h⟩
    ·rw[h]at hrr;cases hrr
    ·exact⟨a,b,by rw[h,List.concat_eq_append]⟩
   have hrl:rr'.length=wid r1:=by rw[List.length_append]at hrr;exact Nat.succ.inj hrr
   have hlast:=hrow (wid r1) rl (by rw[List.getElem?_append_right (by omega),hrl,Nat.sub_self];rfl)
   obtain⟨r0,hr0⟩:∃r0,(rr'++[rl])[0]? =some r0:=⟨_,List.getElem?_eq_getElem (by omega)⟩
   have hr00:=hrow 0 r0 hr0
   have I12:=I11.same s12
   refine⟨λσ' H'=>Same H12 H'/\σ'=[some (.ref s),some (.ref t),some (.int m),some (.int (ng:Int)),some (.str S),some (.ref x),some (.ref a1),some (.ref a2),some (.ref o1),some (.ref o2),some (.int En),some (.int (0+(i:Int))),some (.ref l),none,none,none,none],?_,?_⟩
   ·refine⟨_,rfl,l,_,_,.ref r0,rfl,rfl,SqL.of hl12,q0q (j:=0) (by rw[List.getElem?_map,hr0];rfl),r0,_,_,.int (ppF sg rows fo fm r1 r2 0 0),rfl,rfl,SqL.of hr00,q0q (j:=0) (q1k (Nat.succ_pos _)),?_⟩
    refine⟨_,rfl,_,rfl,x,a1,sg,rows,fo,fm,r1,rfl,I12.prH,SqL.of I12.l1H,hS1.sm,hR1.lenB hn10,hO1,λH13 s13=>?_⟩
    have I13:=I12.same s13
    refine⟨_,rfl,_,rfl,x,a2,sg,rows,fo,fm,r2,rfl,I13.prH,SqL.of I13.l2H,hS2.sm,hR2.lenB hn20,hO2,λH14 s14=>⟨_,_,rfl,rfl,rfl,_,rfl,?_⟩⟩
    have s24:=s13.trans s14
    refine z1b (λz=>absurd ?_ z) λ_=>?_
    ·exact ppF_00
    refine⟨_,rfl,_,rfl,l,_,_,.ref rl,rfl,rfl,SqL.of (s24 _ _ hl12),(by rw[List.map_append];exact z0c _ _),_,rfl,rl,_,_,.int (ppF sg rows fo fm r1 r2 (wid r1) (wid r2)),rfl,rfl,SqL.of (s24 _ _ hlast),(by rw[q5j];exact z0c _ _),_,rfl,rfl,_,rfl,?_⟩
    refine z1b (λz=>absurd ?_ z) λ_=>⟨s24,rfl⟩
    rw[hEn]
   rintro σ' H13 ⟨s13,rfl⟩
   have I13:=I12.same s13
   refine⟨λσ' H'=>Same H13 H'/\σ'=[some (.ref s),some (.ref t),some (.int m),some (.int (ng:Int)),some (.str S),some (.ref x),some (.ref a1),some (.ref a2),some (.ref o1),some (.ref o2),some (.int En),some (.int (0+(i:Int))),some (.ref l),none,none,none,none],?_,?_⟩
   ·exact⟨_,rfl,_,rfl,_,rfl,_,rfl,x,a1,a2,l,sg,rows,fo,fm,r1,r2,rfl,I13.prH,I13.l1H,I13.l2H,hS1,hS2,hR1.lenB hn10,hR2.lenB hn20,hO,(hM.same (s12.trans s13)).mat,λH14 s14=>⟨_,rfl,z3a ⟨s14,rfl⟩⟩⟩
   rintro σ' H14 ⟨s14,rfl⟩
   have s24:=s13.trans s14
   have hl14:=s24 _ _ hl12
   have h014:=s24 _ _ hr00
   have nl0:l≠r0:=λz=>by
    rw[←z,hl14]at h014
    have e:=congrArg (λL=>L[0]?) (HO.lst.inj (Option.some.inj h014))
    simp only[List.getElem?_map,hr0]at e
    rw[List.getElem?_range (Nat.succ_pos _)]at e
    cases e
   refine⟨_,rfl,l,_,_,.ref r0,rfl,rfl,SqL.of hl14,q0q (j:=0) (by rw[List.getElem?_map,hr0];rfl),.inl ⟨rfl,_,SqL.of h014⟩,r0,_,rfl,rfl,h014,?_⟩
   have s15:Same H10 (upd H14 r0 (.lst [])):=Same.at (s11.trans (s12.trans s24)) (hfr r0 (List.mem_of_getElem? hr0))
   have hl15:upd H14 r0 (.lst []) l=some (.lst ((rr'++[rl]).map V.ref)):=by rw[upd_ne nl0];exact hl14
   generalize upd H14 r0 (.lst [])=H15 at s15 hl15 ⊢
   refine⟨_,rfl,.inl ⟨rfl,_,SqL.of hl15⟩,l,_,_,rfl,rfl,hl15,?_,?_⟩
   ·rw[List.length_map]
    exact Nat.lt_of_le_of_lt (show(rr'++[rl]).length<=1000 by omega) (by decide)
   exact⟨_,_,I10.same (Same.at s15 hl0),rfl⟩
  rintro σ' H10 ⟨v11,v12,I10,rfl⟩
  refine⟨λσ' H'=>∃nn:Int,0<=nn/\St43 K p.C_Prices p.C_Block H H' t x a1 a2 o1 o2 (k5+1) sg rows fo fm r1 r2/\σ'=[some (.ref s),some (.ref t),some (.int m),some (.int (ng:Int)),some (.str S),some (.ref x),some (.ref a1),some (.ref a2),some (.ref o1),some (.ref o2),some (.int En),v11,v12,some (.int nn),none,none,none],?_,?_⟩
  ·exact⟨_,rfl,_,rfl,s,t,ns,k5,rfl,hC.off I10.off I10.ct (by omega),by omega,λnn h1 h2=>⟨nn,h1,I10.tick,rfl⟩⟩
  rintro σ' H11 ⟨nn,hnn,I11,rfl⟩
  have hz12:(r1.map V.str).length+(r2.map V.str).length<=sizeLine:=by
   rw[List.length_map,List.length_map]
   exact Nat.le_trans (show _<=1000 by omega) (by decide)
  refine⟨_,rfl,_,rfl,a1,a2,_,_,rfl,rfl,I11.l1H,I11.l2H,hz12,λlw hlw=>?_⟩
  have s12:Same H11 (upd H11 lw (.lst (r1.map V.str++r2.map V.str))):=Same.upd hlw
  have hlw12:upd H11 lw (.lst (r1.map V.str++r2.map V.str)) lw=some (.lst ((r1++r2).map V.str)):=by rw[upd_same,List.map_append]
  generalize upd H11 lw (.lst (r1.map V.str++r2.map V.str))=H12 at s12 hlw12 ⊢
  have hrl:(r1++r2).length=n1+n2:=by rw[List.length_append];omega
  have hrl':((r1++r2).map V.str).length=n1+n2:=by rw[List.length_map,hrl]
  have e1:=Int.emod_nonneg nn (show((n1+n2:Nat):Int)≠0 by omega)
  have e2:=Int.emod_lt_of_pos nn (show(0:Int)<((n1+n2:Nat):Int) by omega)
  obtain⟨r,hr⟩:∃r:Nat,nn % ((n1+n2:Nat):Int)=(r:Int):=⟨_,(Int.toNat_of_nonneg e1).symm⟩
  have hrlt:r<(r1++r2).length:=by omega
  have hrr:=List.getElem?_eq_getElem hrlt
  have hrz:((r1++r2)[r]).cps.size<=50:=by
   rcases List.mem_append.mp (List.getElem_mem hrlt)with z|z
   ·exact hS1.2 _ z
   ·exact hS2.2 _ z
  generalize (r1++r2)[r]=row at hrr hrz
  refine⟨λσ' H'=>H'=H12/\σ'=[some (.ref s),some (.ref t),some (.int m),some (.int (ng:Int)),some (.str S),some (.ref x),some (.ref a1),some (.ref a2),some (.ref o1),some (.ref o2),some (.int En),v11,v12,some (.int nn),some (.ref lw),some (.int (r:Int)),none],?_,?_⟩
  ·refine⟨_,rfl,_,rfl,_,_,rfl,.inl ⟨_,SqL.of hlw12,rfl⟩,_,_,rfl,rfl,(by show(0:Int)<((((r1++r2).map V.str).length:Nat):Int);omega),rfl,?_⟩
   rw[←hr,←hrl']
   rfl
  rintro σ' H12 ⟨rfl,rfl⟩
  refine⟨_,rfl,_,rfl,lw,_,_,.str row,rfl,rfl,SqL.of hlw12,q0q (by rw[List.getElem?_map,hrr];rfl),_,_,rfl,⟨Nat.le_trans (show row.cps.size<=100 by omega) (by decide),rfl⟩,_,_,rfl,rfl,_,rfl,?_⟩
  refine q2n (λh0=>?_) (λh0=>?_)
  ·have h0':(0:Int)<((row.cps.size:Nat):Int):=h0
   have e3:=Int.emod_nonneg (nn / 7) (show((row.cps.size:Nat):Int)≠0 by omega)
   have e4:=Int.emod_lt_of_pos (nn / 7) h0'
   obtain⟨q,hq⟩:∃q:Nat,nn / 7 % ((row.cps.size:Nat):Int)=(q:Int):=⟨_,(Int.toNat_of_nonneg e3).symm⟩
   have hqlt:q<row.cps.size:=by omega
   have hjl:ng<S.cps.toList.length:=by rw[Array.length_toList];omega
   have hcc:=List.getElem?_eq_getElem hjl
   have hcs:=hSs _ (List.getElem_mem hjl)
   generalize S.cps.toList[ng]=c at hcc hcs
   have hck:c∉(knS sg).cps.toList:=λz=>by
    rcases q5s.mp z with z|z
    ·exact sign_ne hcs z
    ·rw[hsg]at z
     exact take_not hSn hcc (Nat.le_refl _) z
   refine⟨λσ' H'=>H'=H12/\σ'=[some (.ref s),some (.ref t),some (.int m),some (.int (ng:Int)),some (.str S),some (.ref x),some (.ref a1),some (.ref a2),some (.ref o1),some (.ref o2),some (.int En),v11,v12,some (.int nn),some (.ref lw),some (.int (r:Int)),some (.int (q:Int))],?_,?_⟩
   ·refine⟨_,rfl,_,_,rfl,rfl,⟨by decide,by decide⟩,_,rfl,_,rfl,lw,_,_,.str row,rfl,rfl,SqL.of hlw12,q0q (by rw[List.getElem?_map,hrr];rfl),_,_,rfl,⟨Nat.le_trans (show row.cps.size<=100 by omega) (by decide),rfl⟩,_,_,rfl,rfl,h0',rfl,?_⟩
    rw[←hq]
    rfl
   rintro σ' H12 ⟨rfl,rfl⟩
   refine⟨_,rfl,_,rfl,lw,_,_,.str row,rfl,rfl,SqL.of hlw12,q0q (by rw[List.getElem?_map,hrr];rfl),_,rfl,_,rfl,_,rfl,S,_,c,rfl,rfl,hzS,q0q hcc,row,⟨#[c]⟩,q,rfl,hqlt,by omega,by show 1<=100;decide,λo' ho'=>?_⟩
   have ho2:o'.cps.toList=row.cps.toList.set q c:=by
    rw[ho']
    exact cut_set _ _ _ (by rw[Array.length_toList];omega)
   refine⟨_,rfl,_,rfl,lw,_,_,r,rfl,rfl,hlw12,?_,?_⟩
   ·unfold ixN
    rw[if_pos (by omega),if_pos (by rw[List.length_map];omega)]
    simp
   have e5:((r1++r2).map V.str).set r (V.str o')=((r1++r2).set r o').map V.str:=by rw[List.map_set]
   rw[e5]
   have s13:Same H11 (upd H12 lw (.lst (((r1++r2).set r o').map V.str))):=Same.at s12 hlw
   have hlw13:upd H12 lw (.lst (((r1++r2).set r o').map V.str)) lw=some (.lst (((r1++r2).set r o').map V.str)):=upd_same
   generalize upd H12 lw (.lst (((r1++r2).set r o').map V.str))=H13 at s13 hlw13 ⊢
   obtain⟨p1,p2⟩:=hR1.put2 hR2 hrr hqlt ho2 hcs
   have hB:BadR (knS sg) (((r1++r2).set r o').take n1++((r1++r2).set r o').drop n1) r q:=by
    rw[List.take_append_drop]
    exact BadR.mk1 hO hrr hqlt ho2 hck
   have hsl:((r1++r2).set r o').length=n1+n2:=by rw[List.length_set,hrl]
   have ct:cutV (((r1++r2).set r o').map V.str) none (some (((r1.map V.str).length:Nat):Int))=(((r1++r2).set r o').take n1).map V.str:=by
    rw[List.length_map,hln1,cut_to (by rw[List.length_map,hsl];omega),List.map_take]
   have cf:cutV (((r1++r2).set r o').map V.str) (some (((r1.map V.str).length:Nat):Int)) none=(((r1++r2).set r o').drop n1).map V.str:=by
    rw[List.length_map,hln1,cut_from (by rw[List.length_map,hsl];omega),List.map_drop]
   have l1':=p1.len
   have l2':=p2.len
   have sm1:Sm2 (((r1++r2).set r o').take n1):=⟨by omega,λr hr=>by rw[p1.wid r hr];omega⟩
   have sm2:Sm2 (((r1++r2).set r o').drop n1):=⟨by omega,λr hr=>by rw[p2.wid r hr];omega⟩
   have bk1:=p1.block hn10
   have bk2:=p2.block hn20
   generalize ((r1++r2).set r o').take n1=u1 at ct sm1 bk1 hB
   generalize ((r1++r2).set r o').drop n1=u2 at cf sm2 bk2 hB
   generalize (r1++r2).set r o'=rs' at hlw13 ct cf ⊢
   have I13:=I11.same s13
   refine⟨λσ' H'=>∃o1',Same H13 H'/\Blk K p.C_Block H' o1' u1/\σ'=[some (.ref s),some (.ref t),some (.int m),some (.int (ng:Int)),some (.str S),some (.ref x),some (.ref a1),some (.ref a2),some (.ref o1'),some (.ref o2),some (.int En),v11,v12,some (.int nn),some (.ref lw),some (.int (r:Int)),some (.int (q:Int))],?_,?_⟩
   ·refine⟨_,rfl,_,rfl,_,_,rfl,.inl ⟨_,SqL.of I13.l1H,rfl⟩,_,rfl,lw,_,rfl,SqL.of hlw13,λpa hpa=>?_⟩
    rw[ct]
    have s14:Same H13 (upd H13 pa (.lst (u1.map V.str))):=Same.upd hpa
    have hpa14:upd H13 pa (.lst (u1.map V.str)) pa=some (.lst (u1.map V.str)):=upd_same
    generalize upd H13 pa (.lst (u1.map V.str))=H14 at s14 hpa14 ⊢
    intro o dx ho hdx ndx
    have s7:Same H14 (upd (upd H14 dx (.own o)) o (.ins p.C_Block dx [])):=Same.at (Same.upd hdx) ho
    refine⟨o,dx,_,u1,rfl,upd_same,⟨pa,rfl,.inl (SqL.of (s7 _ _ hpa14))⟩,sm1.sm,λ_ H8 q1 q2=>⟨rfl,?_⟩,λz=>(by rw[bk1]at z;cases z)⟩
    have g2:Same H14 H8:=λc u hc=>q1 _ _ (s7 _ _ hc) (λz=>by rw[z,ho]at hc;cases hc)
    exact⟨o,s14.trans g2,q2,rfl⟩
   rintro σ' H14 ⟨o1',s14,hB1',rfl⟩
   refine⟨_,rfl,_,rfl,_,rfl,_,rfl,_,_,rfl,.inl ⟨_,SqL.of (s14 _ _ I13.l1H),rfl⟩,_,rfl,lw,_,rfl,SqL.of (s14 _ _ hlw13),λpa hpa=>?_⟩
   rw[cf]
   have s15:Same H14 (upd H14 pa (.lst (u2.map V.str))):=Same.upd hpa
   have hpa15:upd H14 pa (.lst (u2.map V.str)) pa=some (.lst (u2.map V.str)):=upd_same
   generalize upd H14 pa (.lst (u2.map V.str))=H15 at s15 hpa15 ⊢
   intro o dx ho hdx ndx
   have s7:Same H15 (upd (upd H15 dx (.own o)) o (.ins p.C_Block dx [])):=Same.at (Same.upd hdx) ho
   refine⟨o,dx,_,u2,rfl,upd_same,⟨pa,rfl,.inl (SqL.of (s7 _ _ hpa15))⟩,sm2.sm,λ_ H16 q1 q2=>⟨rfl,?_⟩,λz=>(by rw[bk2]at z;cases z)⟩
   have g2:Same H15 H16:=λc u hc=>q1 _ _ (s7 _ _ hc) (λz=>by rw[z,ho]at hc;cases hc)
   have s46:=s15.trans g2
   have I16:=I13.same (s14.trans s46)
   refine⟨x,o1',o,sg,rows,fo,fm,u1,u2,r,q,rfl,I16.prH,hB1'.same s46,q2,sm1,sm2,bk1,bk2,hB,λtq H17 s17 htq=>?_⟩
   refine⟨_,rfl,_,rfl,by show 2<=sizeLine;decide,λt2 ht2=>?_⟩
   refine⟨tq,t2,_,_,rfl,rfl,SqT.of (Same.upd ht2 _ _ htq),SqT.of upd_same,rfl,rfl,?_⟩
   show Q (.bl (q6m _ _)) _
   rw[tup2_eq]
   exact kk _ _ (I16.same (s17.trans (Same.upd ht2))).off ((I16.same (s17.trans (Same.upd ht2))).ct) (by omega) (by omega)
  ·exact kk _ _ (I11.same s12).off (I11.same s12).ct (by omega) (by omega)
end
section
variable{P:Program}{w:World}{K:PySem.W.Frag}{mg:Str->Option Value}{base:Heap}
theorem ok_law {f_law f_law_round:Addr} {fd_law fd_law_round:FuncData} {p:Pm} (T:Txt K mg p w) (D_law:Dn K mg "law" z3l ["_law_script"] f_law fd_law) (D_law_round:Dn K mg "_law_round" q6x ["_law_script","_law_at"] f_law_round fd_law_round) (G_law_round:FnOk P w K mg base CX0 11 f_law_round fd_law_round ["_law_script","_law_at"] (spRound3 K)):FnOk P w K mg base CX0 12 f_law fd_law ["_law_script"] (spLaw K):=by
 refine D_law.fn.ok sc_law (λvs H Q E h=>?_) (λcdv A outer s H vs Q E hr h=>?_)
 ·obtain⟨a,ns,rfl,_⟩:=h
  rfl
 ·obtain⟨a,ns,rfl,hS,hlen,kk⟩:=h
  refine⟨_,(q0c (q0n (i:=1) sc_law.nd rfl (Or.inl rfl) (q4p (q0a q0e q0b)))
   (q0c (q1n PassesOwn.never rfl (q1s rfl T.z_range (q0a (q0p q1j q0e (q0p q2u (q0i (q0l) rfl T.z_len q0y (q0a (q5f sl_list (pv 0) q7b (q7a q0e)) q0b)) q0e)) q0b)) (q0m (i:=2) sc_law.nd rfl (Or.inl rfl)) (q0d (q2h (z0y (q8q (q0h G_law_round (hr.mono (by decide)) rfl D_law_round.m D_law_round.fn.kp D_law_round.b .nil q0t (q0a (pv 0) (q0a (pv 1) q0b))))) (q0d (q0r z0j)) q1a)))
   (q0d (q0r z0j)))),?_⟩
  refine⟨by show 1<=sizeLine;decide,λt ht=>?_⟩
  have c1:Ctr K (upd H t (.lst [.int 0])) a t ns 0:=by
   refine⟨?_,hlen,upd_same,by decide⟩
   rw[Wo.set]
   exact Same.seq (λb u e=>Wo.in (q0x e ht) e) hS
  generalize upd H t (.lst [.int 0])=H1 at c1 ⊢
  have hcl:=z3f (ns.map V.int) none (some 60)
  rw[List.length_map]at hcl
  refine⟨_,rfl,_,rfl,a,_,rfl,c1.scr,λp1 hp1=>⟨_,_,rfl,.inl ⟨_,SqL.of upd_same,rfl⟩,_,_,rfl,rfl,⟨by decide,by decide⟩,_,_,rfl,rfl,_,rfl,?_,?_,?_⟩⟩
  ·omega
  ·omega
  have c2:=c1.same (Same.upd (o:=.lst (cutV (ns.map V.int) none (some 60))) hp1)
  generalize upd H1 p1 (.lst (cutV (ns.map V.int) none (some 60)))=H2 at c2 ⊢
  obtain⟨n,hn⟩:∃n:Nat,(1+(((cutV (ns.map V.int) none (some 60)).length:Nat):Int) / 40).toNat=n:=⟨_,rfl⟩
  have hn2:n<=3:=by omega
  rw[hn]
  refine q2w (lo:=0) (n:=n) (λi σ' H3=>∃(v2:Option V) (k:Int),σ'=[some (.ref a),some (.ref t),v2]/\Ctr K H3 a t ns k/\k<=3000*(i:Int)) ⟨_,0,rfl,c2,by omega⟩ ?_ ?_
  ·rintro i σ' H3 hi ⟨v2,k,rfl,c3,hk⟩
   have k0:=c3.k0
   refine⟨_,rfl,_,rfl,a,t,ns,k,rfl,c3,by omega,λk' H4 w4 ht4 b1 b2=>⟨_,rfl,z3a ⟨_,k',rfl,c3.off w4 ht4 (by omega),by omega⟩⟩⟩
  ·rintro σ' H3 ⟨v2,k,rfl,c3,hk⟩
   exact kk H3
end
def DfN(K:PySem.W.Frag)(x y:Str)(s:Stmt):Prop:=∃f oc od sl kV dc pm an cd ct,PySem.W.nsIn K mainGlobals x=some (some (.ref f))/\K.lookup f=some ⟨oc,od,.func (PySem.W.fnOf y y (q4a s) (q3a s) (q0g s) .none kV dc pm an cd ct),sl⟩/\PySem.W.codeIn K cd y=true/\PySem.W.keepIn K (.ref f)=true
theorem DfN.mk{K:PySem.W.Frag}{x y:Str}{s:Stmt}{f:Addr}{oc kV dc pm cd ct:Value}{od an:Option Addr}{sl:Array (Option Value)}(a:PySem.W.nsIn K mainGlobals x=some (some (.ref f)))(l:K.lookup f=some ⟨oc,od,.func (PySem.W.fnOf y y (q4a s) (q3a s) (q0g s) .none kV dc pm an cd ct),sl⟩)(c:PySem.W.codeIn K cd y=true)(k:PySem.W.keepIn K (.ref f)=true):DfN K x y s:=⟨f,oc,od,sl,kV,dc,pm,an,cd,ct,a,l,c,k⟩
theorem da_mk{K:PySem.W.Frag}{h:Heap}{mg:Str->Option Value}{x y:Str}{s:Stmt}{ps:List Str}(X:K.In h)(G:h.Ns mainGlobals mg)(d:DfN K x y s)(b:∀(kV doc pm:Value) (an:Option Addr) (cdv ct:Value) (us:List Value),us.length=ps.length->bindArgs (PySem.W.fnOf y y (q4a s) (q3a s) (q0g s) .none kV doc pm an cdv ct) ⟨us,[]⟩=pure (ps.zip us)):∃f fd,Da K mg x y s ps f fd:=by
 obtain⟨f,oc,od,sl,kV,dc,pm,an,cd,ct,a,l,c,k⟩:=d
 exact⟨f,_,z3c l c k,(z3c l c k).binds b,PySem.W.mg_of X G a⟩
theorem q1l{K:PySem.W.Frag}{h:Heap}{mg:Str->Option Value}{x:Str}{s:Stmt}{ps:List Str}(X:K.In h)(G:h.Ns mainGlobals mg)(d:DfN K x x s)(b:∀(kV doc pm:Value) (an:Option Addr) (cdv ct:Value) (us:List Value),us.length=ps.length->bindArgs (PySem.W.fnOf x x (q4a s) (q3a s) (q0g s) .none kV doc pm an cdv ct) ⟨us,[]⟩=pure (ps.zip us)):∃f fd,Dn K mg x s ps f fd:=by
 obtain⟨f,fd,e⟩:=da_mk X G d b
 exact⟨f,fd,e.fn,e.b,e.m⟩
theorem all_mk {l:PySem.W.OpenLaw} {w:World} {K:PySem.W.Frag} {h:Heap} {mg:Str->Option Value} {fa:Addr} (X:K.In h) (G:h.Ns mainGlobals mg) (hfa:mg "law" =some (.ref fa))
  {t_FIRST_SIGN:Tok}
  {t_LAST_SIGN:Tok}
  {a_NO_SIGNS:Addr} {od_NO_SIGNS:Option Addr} {n_NO_SIGNS:Nat} {sl_NO_SIGNS:Array (Option Value)} {t_NO_SIGNS0 t_NO_SIGNS1 t_NO_SIGNS2:Tok}
  {a_STEPS:Addr} {ep_STEPS:Nat} {v_STEPS0 v_STEPS1 v_STEPS2:Addr} {t_STEPS0 t_STEPS1 t_STEPS2:Tok}
  {od_STEPS0:Option Addr} {n_STEPS0:Nat} {sl_STEPS0:Array (Option Value)} {u_STEPS0_0 u_STEPS0_1:Tok}
  {od_STEPS1:Option Addr} {n_STEPS1:Nat} {sl_STEPS1:Array (Option Value)} {u_STEPS1_0 u_STEPS1_1:Tok}
  {od_STEPS2:Option Addr} {n_STEPS2:Nat} {sl_STEPS2:Array (Option Value)} {u_STEPS2_0 u_STEPS2_1:Tok}
  {t_GAP:Tok}
  {C_Prices:Addr}
  {C_Block:Addr}
  {C_Joining:Addr}
  {C_WeaveError:Addr}
  {C_NoBlock:Addr}
  {C_NoSign:Addr}
  (u0:PySem.W.nsIn K mainGlobals "FIRST_SIGN" =some (some (.int 32 t_FIRST_SIGN)))
  (u1:PySem.W.nsIn K mainGlobals "LAST_SIGN" =some (some (.int 126 t_LAST_SIGN)))
  (u2:PySem.W.nsIn K mainGlobals "NO_SIGNS" =some (some (.ref a_NO_SIGNS)))
  (u3:K.lookup a_NO_SIGNS=some ⟨.type "tuple",od_NO_SIGNS,.seq #[.int 34 t_NO_SIGNS0,.int 37 t_NO_SIGNS1,.int 45 t_NO_SIGNS2] n_NO_SIGNS,sl_NO_SIGNS⟩)
  (u4:PySem.W.nsIn K mainGlobals "STEPS" =some (some (.ref a_STEPS)))
  (u5:K.lookup a_STEPS=some { cls:=.type "dict",data:=.dict #[⟨PySem.PyData.keyHash w.params (Str.ofString "p"),.str (Str.ofString "p") t_STEPS0,.ref v_STEPS0⟩,⟨PySem.PyData.keyHash w.params (Str.ofString "a"),.str (Str.ofString "a") t_STEPS1,.ref v_STEPS1⟩,⟨PySem.PyData.keyHash w.params (Str.ofString "b"),.str (Str.ofString "b") t_STEPS2,.ref v_STEPS2⟩] ep_STEPS })
  (u6:(a_STEPS==sysModules)=false)
  (u7:K.lookup v_STEPS0=some ⟨.type "tuple",od_STEPS0,.seq #[.int 1 u_STEPS0_0,.int 1 u_STEPS0_1] n_STEPS0,sl_STEPS0⟩)
  (u8:K.lookup v_STEPS1=some ⟨.type "tuple",od_STEPS1,.seq #[.int 1 u_STEPS1_0,.int 0 u_STEPS1_1] n_STEPS1,sl_STEPS1⟩)
  (u9:K.lookup v_STEPS2=some ⟨.type "tuple",od_STEPS2,.seq #[.int 0 u_STEPS2_0,.int 1 u_STEPS2_1] n_STEPS2,sl_STEPS2⟩)
  (u10:PySem.W.nsIn K mainGlobals "GAP" =some (some (.str (Str.ofString "-") t_GAP)))
  (u11:PySem.W.nsIn K mainGlobals "Prices" =some (some (.ref C_Prices)))
  (u12:PySem.W.plainGet K C_Prices Str.empty=true) (u13:PySem.W.hasDictIn K C_Prices=true) (u14:PySem.W.plainOver K C_Prices=true) (u15:PySem.W.findIn K (.ref C_Prices) "__setattr__" =some (some (.builtin "object.__setattr__"))) (u16:PySem.W.makesIn K C_Prices=true) (u17:PySem.W.keepIn K (.ref C_Prices)=true)
  (u18:NoAttr K C_Prices "signs")
  (u19:NoAttr K C_Prices "pairs")
  (u20:NoAttr K C_Prices "opening")
  (u21:NoAttr K C_Prices "more")
  (u22:NoAttr K C_Prices "factors")
  (u23:NoAttr K C_Prices "unit")
  (u24:NoAttr K C_Prices "costs")
  (u25:NoAttr K C_Prices "opening_units")
  (u26:NoAttr K C_Prices "more_units")
  (u27:PySem.W.nsIn K mainGlobals "Block" =some (some (.ref C_Block)))
  (u28:PySem.W.plainGet K C_Block Str.empty=true) (u29:PySem.W.hasDictIn K C_Block=true) (u30:PySem.W.plainOver K C_Block=true) (u31:PySem.W.findIn K (.ref C_Block) "__setattr__" =some (some (.builtin "object.__setattr__"))) (u32:PySem.W.makesIn K C_Block=true) (u33:PySem.W.keepIn K (.ref C_Block)=true)
  (u34:NoAttr K C_Block "rows")
  (u35:PySem.W.nsIn K mainGlobals "Joining" =some (some (.ref C_Joining)))
  (u36:PySem.W.plainGet K C_Joining Str.empty=true) (u37:PySem.W.hasDictIn K C_Joining=true) (u38:PySem.W.plainOver K C_Joining=true) (u39:PySem.W.findIn K (.ref C_Joining) "__setattr__" =some (some (.builtin "object.__setattr__"))) (u40:PySem.W.makesIn K C_Joining=true) (u41:PySem.W.keepIn K (.ref C_Joining)=true)
  (u42:NoAttr K C_Joining "ones")
  (u43:NoAttr K C_Joining "others")
  (u44:NoAttr K C_Joining "one_gaps")
  (u45:NoAttr K C_Joining "other_gaps")
  (u46:NoAttr K C_Joining "by_a")
  (u47:NoAttr K C_Joining "by_b")
  (u48:NoAttr K C_Joining "extras")
  (u49:NoAttr K C_Joining "rests")
  (u50:PySem.W.nsIn K mainGlobals "WeaveError" =some (some (.ref C_WeaveError)))
  (u51:PySem.W.nsIn K mainGlobals "NoBlock" =some (some (.ref C_NoBlock)))
  (u52:PySem.W.excIn K C_NoBlock [.type "ValueError",.type "Exception",.type "BaseException",.type "object"] "ValueError.__new__" =true)
  (u53:PySem.W.nsIn K mainGlobals "NoSign" =some (some (.ref C_NoSign)))
  (u54:PySem.W.hasDictIn K C_NoSign=true) (u55:PySem.W.typeIn K (.ref C_NoSign)=some (.type "type")) (u56:PySem.W.mroIn K C_NoSign (.type "BaseException")=some true)
  (u57:PySem.W.findIn K (.ref C_NoSign) "__getattribute__" =some (some (.builtin "BaseException.__getattribute__")))
  (u58:PySem.W.findIn K (.ref C_NoSign) "__getattr__" =some none)
  (u59:PySem.W.hasDictIn K C_NoSign=true)
  (u60:PySem.W.findIn K (.ref C_NoSign) "__class__" =some (some (.builtin "object.__class__")))
  (u61:PySem.W.specialIn K (.builtin "object.__class__") "__get__" =some (some (.builtin "getset_descriptor.__get__")))
  (u62:PySem.W.takesIn K (.builtin "object.__class__")=some true)
  (u63:PySem.W.mroIn K C_NoSign (.type "object")=some true)
  (u64:PySem.W.mroIn K C_NoSign (.type "BaseException")=some true)
  (u65:PySem.W.hasDictIn K C_NoSign=true) (u66:((PySem.W.clsIn K C_NoSign).any λcd=>z2e cd.mro)=true) (u67:PySem.W.findIn K (.ref C_NoSign) "__setattr__" =some (some (.builtin "object.__setattr__"))) (u68:PySem.W.keepIn K (.ref C_NoSign)=true)
  (u69:NoAttr K C_NoSign "row")
  (u70:NoAttr K C_NoSign "place")
  (u71:PySem.W.specialIn K (.ref C_WeaveError) "__getattribute__" =some (some (.builtin "type.__getattribute__"))) (u72:PySem.W.readsIn K C_WeaveError (.type "type")=true) (u73:PySem.W.findCls K (.ref C_WeaveError) (.type "type") "__init__" =some (.val (.builtin "ValueError.__init__")))
  (u74:PySem.W.subIn K (.ref C_NoSign) (.ref C_NoSign)=some true)
  {od0 an0:Option Addr} {sl0:Array (Option Value)} {oc0 kV0 dc0 pm0 cd0 ct0:Value} {f_NoSign___init__:Addr}
  (u75:PySem.W.findIn K (.ref C_NoSign) "__init__" =some (some (.ref f_NoSign___init__))) (u76:PySem.W.isFn K (.ref f_NoSign___init__)=true) (u77:K.lookup f_NoSign___init__=some ⟨oc0,od0,.func (PySem.W.fnOf "__init__" "NoSign.__init__" (q4a q1i) (q3a q1i) (q0g q1i) .none kV0 dc0 pm0 an0 cd0 ct0),sl0⟩) (u78:PySem.W.codeIn K cd0 "NoSign.__init__" =true) (u79:PySem.W.keepIn K (.ref f_NoSign___init__)=true)
  (u80:DfN K "greatest_divisor" "greatest_divisor" q2c)
  (u81:DfN K "lowest" "lowest" z1s)
  (u82:DfN K "is_sign" "is_sign" q9k)
  (u83:DfN K "are_signs" "are_signs" q5o)
  (u84:DfN K "check_signs" "check_signs" q5c)
  (u85:DfN K "check_lengths_prices" "check_lengths" q1t)
  (u86:DfN K "lowest_price" "lowest_price" q3i)
  (u87:DfN K "lowest_prices" "lowest_prices" q3u)
  (u88:DfN K "all_unders" "all_unders" q6e)
  (u89:DfN K "unit_factors" "unit_factors" q4h)
  (u90:DfN K "product_of" "product_of" q5w)
  (u91:DfN K "by_unit" "by_unit" q7r)
  (u92:DfN K "costs_by_signs" "costs_by_signs" q3l)
  {od14 an14:Option Addr} {sl14:Array (Option Value)} {oc14 kV14 dc14 pm14 cd14 ct14:Value} {f_Prices___init__:Addr}
  (u93:PySem.W.findIn K (.ref C_Prices) "__init__" =some (some (.ref f_Prices___init__))) (u94:PySem.W.isFn K (.ref f_Prices___init__)=true) (u95:K.lookup f_Prices___init__=some ⟨oc14,od14,.func (PySem.W.fnOf "__init__" "Prices.__init__" (q4a q1h) (q3a q1h) (q0g q1h) .none kV14 dc14 pm14 an14 cd14 ct14),sl14⟩) (u96:PySem.W.codeIn K cd14 "Prices.__init__" =true) (u97:PySem.W.keepIn K (.ref f_Prices___init__)=true)
  (u98:DfN K "pair_cost" "pair_cost" q4d)
  (u99:DfN K "more_cost" "more_cost" q3n)
  (u100:DfN K "check_known" "check_known" q5d)
  (u101:DfN K "place_behind" "place_behind" q3h)
  (u102:DfN K "things_at" "things_at" q6u)
  (u103:DfN K "turned" "turned" q9j)
  (u104:DfN K "columns_of" "columns_of" q3p)
  (u105:DfN K "laid_columns" "laid_columns" q4i)
  (u106:DfN K "is_gaps" "is_gaps" q9l)
  (u107:DfN K "signs_of" "signs_of" q5i)
  (u108:DfN K "check_lengths_blocks" "check_lengths" q1u)
  (u109:DfN K "are_things" "are_things" q6d)
  (u110:DfN K "check_things" "check_things" q4l)
  (u111:DfN K "check_columns" "check_columns" q3x)
  {od29 an29:Option Addr} {sl29:Array (Option Value)} {oc29 kV29 dc29 pm29 cd29 ct29:Value} {f_Block___init__:Addr}
  (u112:PySem.W.findIn K (.ref C_Block) "__init__" =some (some (.ref f_Block___init__))) (u113:PySem.W.isFn K (.ref f_Block___init__)=true) (u114:K.lookup f_Block___init__=some ⟨oc29,od29,.func (PySem.W.fnOf "__init__" "Block.__init__" (q4a q1g) (q3a q1g) (q0g q1g) .none kV29 dc29 pm29 an29 cd29 ct29),sl29⟩) (u115:PySem.W.codeIn K cd29 "Block.__init__" =true) (u116:PySem.W.keepIn K (.ref f_Block___init__)=true)
  (u117:DfN K "check_block_rows" "check_block_rows" q2o)
  (u118:DfN K "thing_cost" "thing_cost" q5v)
  (u119:DfN K "column_cost" "column_cost" q5b)
  (u120:DfN K "block_units" "block_units" q5e)
  (u121:DfN K "cost_by_gaps" "cost_by_gaps" q4k)
  (u122:DfN K "costs_by_gaps" "costs_by_gaps" q3w)
  (u123:DfN K "sign_extras" "sign_extras" q4w)
  (u124:DfN K "extras_beside" "extras_beside" q3v)
  (u125:DfN K "all_extras" "all_extras" q6f)
  (u126:DfN K "rests_ahead" "rests_ahead" q4x)
  (u127:DfN K "join_rests" "join_rests" q6b)
  {od41 an41:Option Addr} {sl41:Array (Option Value)} {oc41 kV41 dc41 pm41 cd41 ct41:Value} {f_Joining___init__:Addr}
  (u128:PySem.W.findIn K (.ref C_Joining) "__init__" =some (some (.ref f_Joining___init__))) (u129:PySem.W.isFn K (.ref f_Joining___init__)=true) (u130:K.lookup f_Joining___init__=some ⟨oc41,od41,.func (PySem.W.fnOf "__init__" "Joining.__init__" (q4a q1c) (q3a q1c) (q0g q1c) .none kV41 dc41 pm41 an41 cd41 ct41),sl41⟩) (u131:PySem.W.codeIn K cd41 "Joining.__init__" =true) (u132:PySem.W.keepIn K (.ref f_Joining___init__)=true)
  (u133:DfN K "first_move" "first_move" q6c)
  (u134:DfN K "first_moves" "first_moves" q5a)
  (u135:DfN K "joined_block" "joined_block" q4j)
  (u136:DfN K "joined" "joined" z1t)
  (u137:DfN K "sums_behind" "sums_behind" q4v)
  (u138:DfN K "join_paper" "join_paper" q4o)
  (u139:DfN K "_law_next" "_law_next" q4e)
  (u140:DfN K "_law_signs" "_law_signs" q6w)
  (u141:DfN K "_law_price" "_law_price" q6y)
  (u142:DfN K "_law_prices" "_law_prices" q5z)
  (u143:DfN K "_law_column" "_law_column" q6a)
  (u144:DfN K "_law_rows" "_law_rows" q8f)
  (u145:DfN K "_law_thing" "_law_thing" q5n)
  (u146:DfN K "_law_cost" "_law_cost" q8g)
  (u147:DfN K "_law_whole" "_law_whole" q6v)
  (u148:DfN K "_law_square" "_law_square" q5y)
  (u149:DfN K "_law_between" "_law_between" q4z)
  (u150:DfN K "_law_walked" "_law_walked" q5x)
  (u151:DfN K "_law_with" "_law_with" q8e)
  (u152:DfN K "_law_refused" "_law_refused" q4y)
  (u153:DfN K "_law_round" "_law_round" q6x)
  {od63 an63:Option Addr} {sl63:Array (Option Value)} {oc63 kV63 dc63 pm63 cd63 ct63:Value} {f_law:Addr}
  (u154:PySem.W.nsIn K mainGlobals "law" =some (some (.ref f_law))) (u155:K.lookup f_law=some ⟨oc63,od63,.func (PySem.W.fnOf "law" "law" (q4a z3l) (q3a z3l) (q0g z3l) .none kV63 dc63 pm63 an63 cd63 ct63),sl63⟩) (u156:PySem.W.codeIn K cd63 "law" =true) (u157:PySem.W.keepIn K (.ref f_law)=true)
  (u158:excInI K C_NoSign f_NoSign___init__=true)
  (u159:PySem.W.nsIn K mainGlobals "abs" =some none)
  (u160:PySem.W.nsIn K mainGlobals "len" =some none)
  (u161:PySem.W.nsIn K mainGlobals "ord" =some none)
  (u162:PySem.W.nsIn K mainGlobals "set" =some none)
  (u163:PySem.W.nsIn K mainGlobals "tuple" =some none)
  (u164:PySem.W.nsIn K mainGlobals "zip" =some none)
  (u165:PySem.W.nsIn K mainGlobals "enumerate" =some none)
  (u166:PySem.W.nsIn K mainGlobals "range" =some none)
  (u167:PySem.W.nsIn K mainGlobals "isinstance" =some none)
  (u168:PySem.W.nsIn K mainGlobals "int" =some none)
  (u169:PySem.W.nsIn K mainGlobals "bool" =some none)
  (u170:PySem.W.nsIn K mainGlobals "all" =some none)
  (u171:PySem.W.nsIn K mainGlobals "sum" =some none)
  (u172:PySem.W.nsIn K mainGlobals "list" =some none)
  (u173:PySem.W.nsIn K mainGlobals "min" =some none)
  (u174:PySem.W.nsIn K mainGlobals "reversed" =some none)
  : ∃fd:FuncData,(∀(s:Shared) (v:Value),BindsTo s fd ⟨[v],[]⟩ [("_law_script",v)])/\∀base:Heap,K.In base->base.Ns mainGlobals mg->FnOk l.prog w K mg base CX0 12 fa fd ["_law_script"] (spLaw K):=by
 have e:=hfa.symm.trans (PySem.W.mg_of X G u154)
 cases e
 obtain⟨p,hp⟩:∃p:Pm,p=(⟨t_FIRST_SIGN,t_LAST_SIGN,a_NO_SIGNS,a_STEPS,v_STEPS0,v_STEPS1,v_STEPS2,t_GAP,C_Prices,C_Block,C_Joining,C_WeaveError,C_NoBlock,C_NoSign⟩:Pm):=⟨_,rfl⟩
 have T:Txt K mg p w:=by subst hp;exact⟨PySem.W.mg_none_of X G u159,PySem.W.mg_none_of X G u160,PySem.W.mg_none_of X G u161,PySem.W.mg_none_of X G u162,PySem.W.mg_none_of X G u163,PySem.W.mg_none_of X G u164,PySem.W.mg_none_of X G u165,PySem.W.mg_none_of X G u166,PySem.W.mg_none_of X G u167,PySem.W.mg_none_of X G u168,PySem.W.mg_none_of X G u169,PySem.W.mg_none_of X G u170,PySem.W.mg_none_of X G u171,PySem.W.mg_none_of X G u172,PySem.W.mg_none_of X G u173,PySem.W.mg_none_of X G u174,PySem.W.mg_of X G u0,PySem.W.mg_of X G u1,PySem.W.mg_of X G u2,λH=>.inr ⟨_,_,_,u3,rfl,rfl,(by show 3<=sizeLine;decide),.cons ⟨_,rfl⟩ (.cons ⟨_,rfl⟩ (.cons ⟨_,rfl⟩ (.nil)))⟩,PySem.W.mg_of X G u4,λP=>KDict.mk (P:=P) (w:=w) [((Str.ofString "p"),t_STEPS0,.ref v_STEPS0),((Str.ofString "a"),t_STEPS1,.ref v_STEPS1),((Str.ofString "b"),t_STEPS2,.ref v_STEPS2)] u5 rfl (show([(Str.ofString "p"),(Str.ofString "a"),(Str.ofString "b")]:List Str).Nodup by decide +kernel) (vs:=[.ref v_STEPS0,.ref v_STEPS1,.ref v_STEPS2]) (.cons rfl (.cons rfl (.cons rfl (.nil)))) u6,λH=>.inr ⟨_,_,_,u7,rfl,rfl,(by show 2<=sizeLine;decide),.cons ⟨_,rfl⟩ (.cons ⟨_,rfl⟩ (.nil))⟩,λH=>.inr ⟨_,_,_,u8,rfl,rfl,(by show 2<=sizeLine;decide),.cons ⟨_,rfl⟩ (.cons ⟨_,rfl⟩ (.nil))⟩,λH=>.inr ⟨_,_,_,u9,rfl,rfl,(by show 2<=sizeLine;decide),.cons ⟨_,rfl⟩ (.cons ⟨_,rfl⟩ (.nil))⟩,PySem.W.mg_of X G u10,PySem.W.mg_of X G u11,⟨u12,u13,u14,u15⟩,u18,u19,u20,u21,u22,u23,u24,u25,u26,PySem.W.mg_of X G u27,⟨u28,u29,u30,u31⟩,u34,PySem.W.mg_of X G u35,⟨u36,u37,u38,u39⟩,u42,u43,u44,u45,u46,u47,u48,u49,PySem.W.mg_of X G u50,PySem.W.mg_of X G u51,xcls_of u52,PySem.W.mg_of X G u53,⟨u54,u55,u56⟩,⟨u57,u58,u59,u60,u61,u62,u63,u64⟩,⟨u65,u66,u67⟩,⟨_,xclsI_of u158⟩,u69,u70,⟨u71,u72,u73⟩,u74⟩
 have F_NoSign___init__:=z3c (st:=q1i) u77 u78 u79
 have D_NoSign___init__:Dm K "__init__" "NoSign.__init__" q1i ["self","row","place"] _ _:=⟨F_NoSign___init__,F_NoSign___init__.binds (ps:=["self","row","place"]) λ_ _ _ _ _ _ us hl=>by obtain⟨_,_,_,rfl⟩:=GP.len3 hl;exact rfl⟩
 obtain⟨f_greatest_divisor,fd_greatest_divisor,D_greatest_divisor⟩:=q1l (ps:=["one","other"]) X G u80 λ_ _ _ _ _ _ us hl=>by obtain⟨_,_,rfl⟩:=GP.len2 hl;exact rfl
 obtain⟨f_lowest,fd_lowest,D_lowest⟩:=q1l (ps:=["fraction"]) X G u81 λ_ _ _ _ _ _ us hl=>by obtain⟨_,rfl⟩:=GP.len1 hl;exact rfl
 obtain⟨f_is_sign,fd_is_sign,D_is_sign⟩:=q1l (ps:=["sign"]) X G u82 λ_ _ _ _ _ _ us hl=>by obtain⟨_,rfl⟩:=GP.len1 hl;exact rfl
 obtain⟨f_are_signs,fd_are_signs,D_are_signs⟩:=q1l (ps:=["text"]) X G u83 λ_ _ _ _ _ _ us hl=>by obtain⟨_,rfl⟩:=GP.len1 hl;exact rfl
 obtain⟨f_check_signs,fd_check_signs,D_check_signs⟩:=q1l (ps:=["signs"]) X G u84 λ_ _ _ _ _ _ us hl=>by obtain⟨_,rfl⟩:=GP.len1 hl;exact rfl
 obtain⟨f_check_lengths_prices,fd_check_lengths_prices,D_check_lengths_prices⟩:=da_mk (ps:=["signs","pairs"]) X G u85 λ_ _ _ _ _ _ us hl=>by obtain⟨_,_,rfl⟩:=GP.len2 hl;exact rfl
 obtain⟨f_lowest_price,fd_lowest_price,D_lowest_price⟩:=q1l (ps:=["price"]) X G u86 λ_ _ _ _ _ _ us hl=>by obtain⟨_,rfl⟩:=GP.len1 hl;exact rfl
 obtain⟨f_lowest_prices,fd_lowest_prices,D_lowest_prices⟩:=q1l (ps:=["row"]) X G u87 λ_ _ _ _ _ _ us hl=>by obtain⟨_,rfl⟩:=GP.len1 hl;exact rfl
 obtain⟨f_all_unders,fd_all_unders,D_all_unders⟩:=q1l (ps:=["pairs","opening","more"]) X G u88 λ_ _ _ _ _ _ us hl=>by obtain⟨_,_,_,rfl⟩:=GP.len3 hl;exact rfl
 obtain⟨f_unit_factors,fd_unit_factors,D_unit_factors⟩:=q1l (ps:=["unders"]) X G u89 λ_ _ _ _ _ _ us hl=>by obtain⟨_,rfl⟩:=GP.len1 hl;exact rfl
 obtain⟨f_product_of,fd_product_of,D_product_of⟩:=q1l (ps:=["factors"]) X G u90 λ_ _ _ _ _ _ us hl=>by obtain⟨_,rfl⟩:=GP.len1 hl;exact rfl
 obtain⟨f_by_unit,fd_by_unit,D_by_unit⟩:=q1l (ps:=["price","unit"]) X G u91 λ_ _ _ _ _ _ us hl=>by obtain⟨_,_,rfl⟩:=GP.len2 hl;exact rfl
 obtain⟨f_costs_by_signs,fd_costs_by_signs,D_costs_by_signs⟩:=q1l (ps:=["signs","pairs","unit"]) X G u92 λ_ _ _ _ _ _ us hl=>by obtain⟨_,_,_,rfl⟩:=GP.len3 hl;exact rfl
 have F_Prices___init__:=z3c (st:=q1h) u95 u96 u97
 have D_Prices___init__:Dm K "__init__" "Prices.__init__" q1h ["self","signs","pairs","opening","more"] _ _:=⟨F_Prices___init__,F_Prices___init__.binds (ps:=["self","signs","pairs","opening","more"]) λ_ _ _ _ _ _ us hl=>by obtain⟨_,_,_,_,_,rfl⟩:=GP.len5 hl;exact rfl⟩
 obtain⟨f_pair_cost,fd_pair_cost,D_pair_cost⟩:=q1l (ps:=["prices","one","other"]) X G u98 λ_ _ _ _ _ _ us hl=>by obtain⟨_,_,_,rfl⟩:=GP.len3 hl;exact rfl
 obtain⟨f_more_cost,fd_more_cost,D_more_cost⟩:=q1l (ps:=["prices"]) X G u99 λ_ _ _ _ _ _ us hl=>by obtain⟨_,rfl⟩:=GP.len1 hl;exact rfl
 obtain⟨f_check_known,fd_check_known,D_check_known⟩:=q1l (ps:=["known","rows"]) X G u100 λ_ _ _ _ _ _ us hl=>by obtain⟨_,_,rfl⟩:=GP.len2 hl;exact rfl
 obtain⟨f_place_behind,fd_place_behind,D_place_behind⟩:=q1l (ps:=["place","move"]) X G u101 λ_ _ _ _ _ _ us hl=>by obtain⟨_,_,rfl⟩:=GP.len2 hl;exact rfl
 obtain⟨f_things_at,fd_things_at,D_things_at⟩:=q1l (ps:=["texts","place"]) X G u102 λ_ _ _ _ _ _ us hl=>by obtain⟨_,_,rfl⟩:=GP.len2 hl;exact rfl
 obtain⟨f_turned,fd_turned,D_turned⟩:=q1l (ps:=["texts","many"]) X G u103 λ_ _ _ _ _ _ us hl=>by obtain⟨_,_,rfl⟩:=GP.len2 hl;exact rfl
 obtain⟨f_columns_of,fd_columns_of,D_columns_of⟩:=q1l (ps:=["rows"]) X G u104 λ_ _ _ _ _ _ us hl=>by obtain⟨_,rfl⟩:=GP.len1 hl;exact rfl
 obtain⟨f_laid_columns,fd_laid_columns,D_laid_columns⟩:=q1l (ps:=["ones","others","one_gaps","other_gaps","moves"]) X G u105 λ_ _ _ _ _ _ us hl=>by obtain⟨_,_,_,_,_,rfl⟩:=GP.len5 hl;exact rfl
 obtain⟨f_is_gaps,fd_is_gaps,D_is_gaps⟩:=q1l (ps:=["column"]) X G u106 λ_ _ _ _ _ _ us hl=>by obtain⟨_,rfl⟩:=GP.len1 hl;exact rfl
 obtain⟨f_signs_of,fd_signs_of,D_signs_of⟩:=q1l (ps:=["things"]) X G u107 λ_ _ _ _ _ _ us hl=>by obtain⟨_,rfl⟩:=GP.len1 hl;exact rfl
 obtain⟨f_check_lengths_blocks,fd_check_lengths_blocks,D_check_lengths_blocks⟩:=da_mk (ps:=["rows"]) X G u108 λ_ _ _ _ _ _ us hl=>by obtain⟨_,rfl⟩:=GP.len1 hl;exact rfl
 obtain⟨f_are_things,fd_are_things,D_are_things⟩:=q1l (ps:=["row"]) X G u109 λ_ _ _ _ _ _ us hl=>by obtain⟨_,rfl⟩:=GP.len1 hl;exact rfl
 obtain⟨f_check_things,fd_check_things,D_check_things⟩:=q1l (ps:=["rows"]) X G u110 λ_ _ _ _ _ _ us hl=>by obtain⟨_,rfl⟩:=GP.len1 hl;exact rfl
 obtain⟨f_check_columns,fd_check_columns,D_check_columns⟩:=q1l (ps:=["rows"]) X G u111 λ_ _ _ _ _ _ us hl=>by obtain⟨_,rfl⟩:=GP.len1 hl;exact rfl
 have F_Block___init__:=z3c (st:=q1g) u114 u115 u116
 have D_Block___init__:Dm K "__init__" "Block.__init__" q1g ["self","rows"] _ _:=⟨F_Block___init__,F_Block___init__.binds (ps:=["self","rows"]) λ_ _ _ _ _ _ us hl=>by obtain⟨_,_,rfl⟩:=GP.len2 hl;exact rfl⟩
 obtain⟨f_check_block_rows,fd_check_block_rows,D_check_block_rows⟩:=q1l (ps:=["prices","rows"]) X G u117 λ_ _ _ _ _ _ us hl=>by obtain⟨_,_,rfl⟩:=GP.len2 hl;exact rfl
 obtain⟨f_thing_cost,fd_thing_cost,D_thing_cost⟩:=q1l (ps:=["prices","one","other"]) X G u118 λ_ _ _ _ _ _ us hl=>by obtain⟨_,_,_,rfl⟩:=GP.len3 hl;exact rfl
 obtain⟨f_column_cost,fd_column_cost,D_column_cost⟩:=q1l (ps:=["prices","column"]) X G u119 λ_ _ _ _ _ _ us hl=>by obtain⟨_,_,rfl⟩:=GP.len2 hl;exact rfl
 obtain⟨f_block_units,fd_block_units,D_block_units⟩:=q1l (ps:=["prices","block"]) X G u120 λ_ _ _ _ _ _ us hl=>by obtain⟨_,_,rfl⟩:=GP.len2 hl;exact rfl
 obtain⟨f_cost_by_gaps,fd_cost_by_gaps,D_cost_by_gaps⟩:=q1l (ps:=["prices","column","many"]) X G u121 λ_ _ _ _ _ _ us hl=>by obtain⟨_,_,_,rfl⟩:=GP.len3 hl;exact rfl
 obtain⟨f_costs_by_gaps,fd_costs_by_gaps,D_costs_by_gaps⟩:=q1l (ps:=["prices","columns","many"]) X G u122 λ_ _ _ _ _ _ us hl=>by obtain⟨_,_,_,rfl⟩:=GP.len3 hl;exact rfl
 obtain⟨f_sign_extras,fd_sign_extras,D_sign_extras⟩:=q1l (ps:=["prices","signs"]) X G u123 λ_ _ _ _ _ _ us hl=>by obtain⟨_,_,rfl⟩:=GP.len2 hl;exact rfl
 obtain⟨f_extras_beside,fd_extras_beside,D_extras_beside⟩:=q1l (ps:=["prices","signs","others"]) X G u124 λ_ _ _ _ _ _ us hl=>by obtain⟨_,_,_,rfl⟩:=GP.len3 hl;exact rfl
 obtain⟨f_all_extras,fd_all_extras,D_all_extras⟩:=q1l (ps:=["prices","ones","others"]) X G u125 λ_ _ _ _ _ _ us hl=>by obtain⟨_,_,_,rfl⟩:=GP.len3 hl;exact rfl
 obtain⟨f_rests_ahead,fd_rests_ahead,D_rests_ahead⟩:=q1l (ps:=["extras","below"]) X G u126 λ_ _ _ _ _ _ us hl=>by obtain⟨_,_,rfl⟩:=GP.len2 hl;exact rfl
 obtain⟨f_join_rests,fd_join_rests,D_join_rests⟩:=q1l (ps:=["extras","many"]) X G u127 λ_ _ _ _ _ _ us hl=>by obtain⟨_,_,rfl⟩:=GP.len2 hl;exact rfl
 have F_Joining___init__:=z3c (st:=q1c) u130 u131 u132
 have D_Joining___init__:Dm K "__init__" "Joining.__init__" q1c ["self","prices","one","other"] _ _:=⟨F_Joining___init__,F_Joining___init__.binds (ps:=["self","prices","one","other"]) λ_ _ _ _ _ _ us hl=>by obtain⟨_,_,_,_,rfl⟩:=GP.len4 hl;exact rfl⟩
 obtain⟨f_first_move,fd_first_move,D_first_move⟩:=q1l (ps:=["joining","i","j"]) X G u133 λ_ _ _ _ _ _ us hl=>by obtain⟨_,_,_,rfl⟩:=GP.len3 hl;exact rfl
 obtain⟨f_first_moves,fd_first_moves,D_first_moves⟩:=q1l (ps:=["joining"]) X G u134 λ_ _ _ _ _ _ us hl=>by obtain⟨_,rfl⟩:=GP.len1 hl;exact rfl
 obtain⟨f_joined_block,fd_joined_block,D_joined_block⟩:=q1l (ps:=["joining"]) X G u135 λ_ _ _ _ _ _ us hl=>by obtain⟨_,rfl⟩:=GP.len1 hl;exact rfl
 obtain⟨f_joined,fd_joined,D_joined⟩:=q1l (ps:=["prices","one","other"]) X G u136 λ_ _ _ _ _ _ us hl=>by obtain⟨_,_,_,rfl⟩:=GP.len3 hl;exact rfl
 obtain⟨f_sums_behind,fd_sums_behind,D_sums_behind⟩:=q1l (ps:=["costs"]) X G u137 λ_ _ _ _ _ _ us hl=>by obtain⟨_,rfl⟩:=GP.len1 hl;exact rfl
 obtain⟨f_join_paper,fd_join_paper,D_join_paper⟩:=q1l (ps:=["prices","one","other"]) X G u138 λ_ _ _ _ _ _ us hl=>by obtain⟨_,_,_,rfl⟩:=GP.len3 hl;exact rfl
 obtain⟨f_law_next,fd_law_next,D_law_next⟩:=q1l (ps:=["_law_script","_law_at"]) X G u139 λ_ _ _ _ _ _ us hl=>by obtain⟨_,_,rfl⟩:=GP.len2 hl;exact rfl
 obtain⟨f_law_signs,fd_law_signs,D_law_signs⟩:=q1l (ps:=["_law_script","_law_at","_law_many"]) X G u140 λ_ _ _ _ _ _ us hl=>by obtain⟨_,_,_,rfl⟩:=GP.len3 hl;exact rfl
 obtain⟨f_law_price,fd_law_price,D_law_price⟩:=q1l (ps:=["_law_script","_law_at"]) X G u141 λ_ _ _ _ _ _ us hl=>by obtain⟨_,_,rfl⟩:=GP.len2 hl;exact rfl
 obtain⟨f_law_prices,fd_law_prices,D_law_prices⟩:=q1l (ps:=["_law_script","_law_at","_law_signs_here","_law_same"]) X G u142 λ_ _ _ _ _ _ us hl=>by obtain⟨_,_,_,_,rfl⟩:=GP.len4 hl;exact rfl
 obtain⟨f_law_column,fd_law_column,D_law_column⟩:=q1l (ps:=["_law_script","_law_at","_law_signs_here","_law_many"]) X G u143 λ_ _ _ _ _ _ us hl=>by obtain⟨_,_,_,_,rfl⟩:=GP.len4 hl;exact rfl
 obtain⟨f_law_rows,fd_law_rows,D_law_rows⟩:=q1l (ps:=["_law_script","_law_at","_law_signs_here","_law_many","_law_columns"]) X G u144 λ_ _ _ _ _ _ us hl=>by obtain⟨_,_,_,_,_,rfl⟩:=GP.len5 hl;exact rfl
 obtain⟨f_law_thing,fd_law_thing,D_law_thing⟩:=q1l (ps:=["_law_prices_here","_law_one","_law_other"]) X G u145 λ_ _ _ _ _ _ us hl=>by obtain⟨_,_,_,rfl⟩:=GP.len3 hl;exact rfl
 obtain⟨f_law_cost,fd_law_cost,D_law_cost⟩:=q1l (ps:=["_law_prices_here","_law_rows_here"]) X G u146 λ_ _ _ _ _ _ us hl=>by obtain⟨_,_,rfl⟩:=GP.len2 hl;exact rfl
 obtain⟨f_law_whole,fd_law_whole,D_law_whole⟩:=q1l (ps:=["_law_found"]) X G u147 λ_ _ _ _ _ _ us hl=>by obtain⟨_,rfl⟩:=GP.len1 hl;exact rfl
 obtain⟨f_law_square,fd_law_square,D_law_square⟩:=q1l (ps:=["_law_found","_law_high","_law_wide"]) X G u148 λ_ _ _ _ _ _ us hl=>by obtain⟨_,_,_,rfl⟩:=GP.len3 hl;exact rfl
 obtain⟨f_law_between,fd_law_between,D_law_between⟩:=q1l (ps:=["_law_prices_here","_law_left","_law_right"]) X G u149 λ_ _ _ _ _ _ us hl=>by obtain⟨_,_,_,rfl⟩:=GP.len3 hl;exact rfl
 obtain⟨f_law_walked,fd_law_walked,D_law_walked⟩:=q1l (ps:=["_law_prices_here","_law_ones","_law_others","_law_found"]) X G u150 λ_ _ _ _ _ _ us hl=>by obtain⟨_,_,_,_,rfl⟩:=GP.len4 hl;exact rfl
 obtain⟨f_law_with,fd_law_with,D_law_with⟩:=q1l (ps:=["_law_row","_law_k","_law_thing_here"]) X G u151 λ_ _ _ _ _ _ us hl=>by obtain⟨_,_,_,rfl⟩:=GP.len3 hl;exact rfl
 obtain⟨f_law_refused,fd_law_refused,D_law_refused⟩:=q1l (ps:=["_law_prices_here","_law_one","_law_other"]) X G u152 λ_ _ _ _ _ _ us hl=>by obtain⟨_,_,_,rfl⟩:=GP.len3 hl;exact rfl
 obtain⟨f_law_round,fd_law_round,D_law_round⟩:=q1l (ps:=["_law_script","_law_at"]) X G u153 λ_ _ _ _ _ _ us hl=>by obtain⟨_,_,rfl⟩:=GP.len2 hl;exact rfl
 have F_law:=z3c (st:=z3l) u155 u156 u157
 have D_law:Dn K mg "law" z3l ["_law_script"] _ _:=⟨F_law,F_law.binds (ps:=["_law_script"]) λ_ _ _ _ _ _ us hl=>by obtain⟨_,rfl⟩:=GP.len1 hl;exact rfl,PySem.W.mg_of X G u154⟩
 have M_NoSign:XMk K p.C_NoSign f_NoSign___init__:=by subst hp;exact⟨xclsI_of u158,u76,u68⟩
 have M_Prices:Mk K p.C_Prices f_Prices___init__:=by subst hp;exact⟨u16,u93,u94,u17⟩
 have M_Block:Mk K p.C_Block f_Block___init__:=by subst hp;exact⟨u32,u112,u113,u33⟩
 have M_Joining:Mk K p.C_Joining f_Joining___init__:=by subst hp;exact⟨u40,u128,u129,u41⟩
 refine⟨PySem.W.fnOf "law" "law" (q4a z3l) (q3a z3l) (q0g z3l) .none kV63 dc63 pm63 an63 cd63 ct63,λs v=>.of_eq rfl,λbase _ _=>?_⟩
 have R_greatest_divisor:=q8w (P:=l.prog) (w:=w) (base:=base) T D_greatest_divisor
 have R_lowest:=ok_lowest (P:=l.prog) (w:=w) (base:=base) T D_lowest D_greatest_divisor R_greatest_divisor
 have R_lowest_price:=z2s (P:=l.prog) (w:=w) (base:=base) T D_lowest_price D_lowest R_lowest
 have R_lowest_prices:=z1h (P:=l.prog) (w:=w) (base:=base) T D_lowest_prices D_lowest_price R_lowest_price
 have R_all_unders:=z5s (P:=l.prog) (w:=w) (base:=base) T D_all_unders
 have R_unit_factors:=z2q (P:=l.prog) (w:=w) (base:=base) T D_unit_factors D_greatest_divisor R_greatest_divisor
 have R_product_of:=z5i (P:=l.prog) (w:=w) (base:=base) T D_product_of
 have R_by_unit:=ok_by_unit (P:=l.prog) (w:=w) (base:=base) T D_by_unit
 have R_is_sign:=ok_is_sign (P:=l.prog) (w:=w) (base:=base) T D_is_sign
 have R_are_signs:=ok_are_signs (P:=l.prog) (w:=w) (base:=base) T D_are_signs D_is_sign R_is_sign
 have R_check_signs:=z3t (P:=l.prog) (w:=w) (base:=base) T D_check_signs D_are_signs R_are_signs
 have R_check_lengths_prices:=q7d (P:=l.prog) (w:=w) (base:=base) T D_check_lengths_prices
 have R_costs_by_signs:=z0l (P:=l.prog) (w:=w) (base:=base) T D_costs_by_signs D_by_unit R_by_unit
 have R_pair_cost:=ok_pair_cost (P:=l.prog) (w:=w) (base:=base) T D_pair_cost
 have R_more_cost:=ok_more_cost (P:=l.prog) (w:=w) (base:=base) T D_more_cost
 have R_Prices___init__:=q9p (P:=l.prog) (w:=w) (base:=base) T D_Prices___init__ D_check_signs R_check_signs D_check_lengths_prices R_check_lengths_prices D_lowest_prices R_lowest_prices D_lowest_price R_lowest_price D_all_unders R_all_unders D_unit_factors R_unit_factors D_product_of R_product_of D_costs_by_signs R_costs_by_signs D_by_unit R_by_unit
 have R_law_next:=ok_law_next (P:=l.prog) (w:=w) (base:=base) T D_law_next
 have R_things_at:=ok_things_at (P:=l.prog) (w:=w) (base:=base) T D_things_at
 have R_turned:=ok_turned (P:=l.prog) (w:=w) (base:=base) T D_turned D_things_at R_things_at
 have R_columns_of:=z5q (P:=l.prog) (w:=w) (base:=base) T D_columns_of D_turned R_turned
 have R_is_gaps:=ok_is_gaps (P:=l.prog) (w:=w) (base:=base) T D_is_gaps
 have R_signs_of:=ok_signs_of (P:=l.prog) (w:=w) (base:=base) T D_signs_of
 have R_are_things:=z5r (P:=l.prog) (w:=w) (base:=base) T D_are_things D_signs_of R_signs_of D_are_signs R_are_signs
 have R_check_lengths_blocks:=q7e (P:=l.prog) (w:=w) (base:=base) T D_check_lengths_blocks
 have R_check_things:=z2w (P:=l.prog) (w:=w) (base:=base) T D_check_things D_are_things R_are_things
 have R_check_columns:=z1k (P:=l.prog) (w:=w) (base:=base) T D_check_columns D_columns_of R_columns_of D_is_gaps R_is_gaps
 have R_place_behind:=z2r (P:=l.prog) (w:=w) (base:=base) T D_place_behind
 have R_NoSign___init__:=q9q (P:=l.prog) (w:=w) (base:=base) T D_NoSign___init__
 have R_Block___init__:=z0m (P:=l.prog) (w:=w) (base:=base) T D_Block___init__ D_check_lengths_blocks R_check_lengths_blocks D_check_things R_check_things D_check_columns R_check_columns
 have R_law_with:=ok_law_with (P:=l.prog) (w:=w) (base:=base) T D_law_with
 have R_check_known:=z3u (P:=l.prog) (w:=w) (base:=base) T D_check_known D_NoSign___init__ M_NoSign R_NoSign___init__
 have R_check_block_rows:=q8x (P:=l.prog) (w:=w) (base:=base) T D_check_block_rows D_check_known R_check_known
 have R_thing_cost:=z5h (P:=l.prog) (w:=w) (base:=base) T D_thing_cost D_more_cost R_more_cost D_pair_cost R_pair_cost
 have R_law_thing:=ok_law_thing (P:=l.prog) (w:=w) (base:=base) T D_law_thing D_more_cost R_more_cost D_pair_cost R_pair_cost
 have R_column_cost:=z3s (P:=l.prog) (w:=w) (base:=base) T D_column_cost D_thing_cost R_thing_cost
 have R_block_units:=z3v (P:=l.prog) (w:=w) (base:=base) T D_block_units D_column_cost R_column_cost D_columns_of R_columns_of
 have R_law_signs:=ok_law_signs (P:=l.prog) (w:=w) (base:=base) T D_law_signs D_law_next R_law_next
 have R_law_price:=ok_law_price (P:=l.prog) (w:=w) (base:=base) T D_law_price D_law_next R_law_next
 have R_law_prices:=z5l (P:=l.prog) (w:=w) (base:=base) T D_law_prices D_law_price R_law_price D_Prices___init__ M_Prices R_Prices___init__
 have R_law_cost:=ok_law_cost (P:=l.prog) (w:=w) (base:=base) T D_law_cost D_law_thing R_law_thing
 have R_law_whole:=ok_law_whole (P:=l.prog) (w:=w) (base:=base) T D_law_whole
 have R_law_column:=z5m (P:=l.prog) (w:=w) (base:=base) T D_law_column D_law_next R_law_next
 have R_law_rows:=ok_law_rows (P:=l.prog) (w:=w) (base:=base) T D_law_rows D_law_column R_law_column
 have R_cost_by_gaps:=z2v (P:=l.prog) (w:=w) (base:=base) T D_cost_by_gaps D_signs_of R_signs_of D_more_cost R_more_cost
 have R_costs_by_gaps:=z1j (P:=l.prog) (w:=w) (base:=base) T D_costs_by_gaps D_cost_by_gaps R_cost_by_gaps
 have R_sign_extras:=z3n (P:=l.prog) (w:=w) (base:=base) T D_sign_extras D_pair_cost R_pair_cost D_more_cost R_more_cost
 have R_extras_beside:=z1i (P:=l.prog) (w:=w) (base:=base) T D_extras_beside D_sign_extras R_sign_extras
 have R_all_extras:=z5t (P:=l.prog) (w:=w) (base:=base) T D_all_extras D_extras_beside R_extras_beside
 have R_rests_ahead:=z3o (P:=l.prog) (w:=w) (base:=base) T D_rests_ahead
 have R_join_rests:=z5n (P:=l.prog) (w:=w) (base:=base) T D_join_rests D_rests_ahead R_rests_ahead
 have R_Joining___init__:=q8y (P:=l.prog) (w:=w) (base:=base) T D_Joining___init__ D_check_block_rows R_check_block_rows D_columns_of R_columns_of D_costs_by_gaps R_costs_by_gaps D_signs_of R_signs_of D_all_extras R_all_extras D_join_rests R_join_rests
 have R_first_move:=z5p (P:=l.prog) (w:=w) (base:=base) T D_first_move
 have R_first_moves:=z3r (P:=l.prog) (w:=w) (base:=base) T D_first_moves D_first_move R_first_move D_place_behind R_place_behind
 have R_laid_columns:=z2t (P:=l.prog) (w:=w) (base:=base) T D_laid_columns D_place_behind R_place_behind
 have R_joined_block:=z2u (P:=l.prog) (w:=w) (base:=base) T D_joined_block D_first_moves R_first_moves D_laid_columns R_laid_columns D_turned R_turned D_Block___init__ M_Block (FnOk.nv R_Block___init__)
 have R_joined:=ok_joined (P:=l.prog) (w:=w) (base:=base) T D_joined D_joined_block R_joined_block D_Joining___init__ M_Joining (FnOk.nv R_Joining___init__)
 have R_sums_behind:=z3m (P:=l.prog) (w:=w) (base:=base) T D_sums_behind
 have R_join_paper:=z5o (P:=l.prog) (w:=w) (base:=base) T D_join_paper D_Joining___init__ M_Joining R_Joining___init__ D_block_units R_block_units D_sums_behind R_sums_behind
 have R_law_square:=z5k (P:=l.prog) (w:=w) (base:=base) T D_law_square D_law_whole R_law_whole
 have R_law_between:=z3q (P:=l.prog) (w:=w) (base:=base) T D_law_between D_law_thing R_law_thing
 have R_law_walked:=z5j (P:=l.prog) (w:=w) (base:=base) T D_law_walked D_law_between R_law_between
 have R_law_refused:=z3p (P:=l.prog) (w:=w) (base:=base) T D_law_refused D_join_paper R_join_paper
 have R_law_round:=ok_law_round (P:=l.prog) (w:=w) (base:=base) T D_law_round D_law_next R_law_next D_law_signs R_law_signs D_law_prices R_law_prices D_law_rows R_law_rows D_Block___init__ M_Block (FnOk.nv R_Block___init__) D_joined R_joined D_law_cost R_law_cost D_join_paper (FnOk.nv R_join_paper) D_law_square R_law_square D_law_walked R_law_walked D_law_with R_law_with D_law_refused R_law_refused
 have R_law:=ok_law (P:=l.prog) (w:=w) (base:=base) T D_law D_law_round R_law_round
 exact R_law
theorem walk{l:PySem.W.OpenLaw}{q:Program}{loose:List Str}{XP:(Str->Option Value)->Heap->Prop}{as:List Addr}{N t:Nat}{d:DefRec}{K:Params->PySem.W.Frag}(hn:l.most=some 63)(hdf:d.params.defaults=[])
  (hk:∀P,as=(K P).map (·.1)) (ht:∀P,tokAll (K P) t=true)
  (F:∀(w:World) (mg:Str->Option Value) (fa:Addr) (h:Heap),(K w.params).In h->h.Ns mainGlobals mg->mg d.name=some (.ref fa) →
   ∃fd:FuncData,(∀(s:Shared) (u:Value),BindsTo s fd ⟨[u],[]⟩ [("_law_script",u)])/\∀base:Heap,(K w.params).In base->base.Ns mainGlobals mg->FnOk l.prog w (K w.params) mg base CX0 12 fa fd ["_law_script"] (spLaw (K w.params))) :
  PySem.W.WalkX q loose XP (PySem.W.X.obsZ as) (PySem.W.X.valZ K N t) l.row.toRowW d [] (λf vs=>PySem.call f vs) :=
 L2.walk_ofZ (n:=63) (k:=12) (x:= "_law_script") (CX:=λ_=>CX0) (sp:=λw=>spLaw (K w.params)) hn (by decide) hdf ⟨rfl,by decide,by decide⟩ hk ht F (λ_ _ a ns hl _ hS=>⟨a,ns,rfl,hS,hl,λ_=>rfl⟩) λ_ _ _ _ _ z=>z
end G43
namespace PySem.W.Fast
theorem tw5216933907006946513:True:=⟨⟩
theorem tw4269980696748347892:True:=⟨⟩
theorem tw12436505727975425412:True:=⟨⟩
theorem tw11679224470239146416:True:=⟨⟩
theorem tw1269703848927901358:True:=⟨⟩
theorem tw1417987187063913486:True:=⟨⟩
theorem tw12567875917126499731:True:=⟨⟩
theorem tw4262876399800685422:True:=⟨⟩
theorem tw13507904544001357476:True:=⟨⟩
theorem tw7992888737417391823:True:=⟨⟩
theorem tw6039745865277037106:True:=⟨⟩
theorem tw13227869015635762396:True:=⟨⟩
theorem tw10049854885561865911:True:=⟨⟩
theorem tw18132035461774737483:True:=⟨⟩
theorem tw3092854736045692416:True:=⟨⟩
theorem tw13743929193638521975:True:=⟨⟩
theorem tw7420874331456402118:True:=⟨⟩
theorem tw4313167205341819466:True:=⟨⟩
theorem tw16163954586384719247:True:=⟨⟩
theorem tw2934348254253620635:True:=⟨⟩
theorem tw11359141874476725470:True:=⟨⟩
theorem tw11038978149661432756:True:=⟨⟩
theorem tw12321551314880464565:True:=⟨⟩
theorem tw4980353430692811998:True:=⟨⟩
theorem tw1411067700733936994:True:=⟨⟩
theorem tw18206048114161874318:True:=⟨⟩
theorem tw8358556714699947477:True:=⟨⟩
theorem tw4823958303114028673:True:=⟨⟩
theorem tw2148442054200101354:True:=⟨⟩
theorem tw36397872480978490:True:=⟨⟩
theorem tw12853388773315648755:True:=⟨⟩
theorem tw3333719864126513985:True:=⟨⟩
theorem tw16929057260224620547:True:=⟨⟩
theorem tw7035132507460203036:True:=⟨⟩
theorem tw13605615717803589105:True:=⟨⟩
theorem tw13977820132257804654:True:=⟨⟩
theorem tw16808519757908535751:True:=⟨⟩
theorem tw1807334587178117943:True:=⟨⟩
theorem tw4885601200011347779:True:=⟨⟩
theorem tw7670991031274728344:True:=⟨⟩
theorem tw14535733418428929363:True:=⟨⟩
theorem tw1728818091434067521:True:=⟨⟩
theorem tw13354793881824466356:True:=⟨⟩
theorem tw10211892951323520161:True:=⟨⟩
theorem tw12137267232484492662:True:=⟨⟩
theorem tw16404431066535478049:True:=⟨⟩
theorem tw4472722468235841599:True:=⟨⟩
theorem tw8946898551866306378:True:=⟨⟩
theorem tw3880455353842559849:True:=⟨⟩
theorem tw4820737232800094919:True:=⟨⟩
theorem tw10452838019278911698:True:=⟨⟩
theorem tw4034243033481370537:True:=⟨⟩
theorem tw15809270480377279230:True:=⟨⟩
theorem tw11640884032524161723:True:=⟨⟩
theorem tw1930646100204195315:True:=⟨⟩
theorem tw10285157445876591107:True:=⟨⟩
theorem tw5899654823569276324:True:=⟨⟩
theorem tw13408912370712990024:True:=⟨⟩
theorem tw15613202271068729183:True:=⟨⟩
theorem tw12146917766501927025:True:=⟨⟩
theorem tw396827387206914269:True:=⟨⟩
theorem tw15772150525002886096:True:=⟨⟩
theorem tw1433184265991145300:True:=⟨⟩
theorem tw9535940526530905504:True:=⟨⟩
theorem tw13997076315400562966:True:=⟨⟩
theorem tw13986837498226943351:True:=⟨⟩
theorem tw12164510696753431883:True:=⟨⟩
theorem tw2862390185518449981:True:=⟨⟩
theorem tw13043973734827397112:True:=⟨⟩
theorem tw15937886189537171869:True:=⟨⟩
theorem tw6204380223265174642:True:=⟨⟩
theorem tw2083247571532126715:True:=⟨⟩
theorem tw10099512006190781375:True:=⟨⟩
theorem tw135613879991304103:True:=⟨⟩
theorem tw4111233666599348291:True:=⟨⟩
theorem tw17191227433046296958:True:=⟨⟩
theorem tw10134510848758165532:True:=⟨⟩
theorem tw16252591417506632885:True:=⟨⟩
theorem tw302063514506478744:True:=⟨⟩
theorem tw335873729382695203:True:=⟨⟩
theorem tw455701540374550265:True:=⟨⟩
theorem tw1050459340731959769:True:=⟨⟩
theorem tw17916139153941176753:True:=⟨⟩
theorem tw10218045131339213521:True:=⟨⟩
theorem tw6956767260899498187:True:=⟨⟩
theorem tw1355597444169823139:True:=⟨⟩
theorem tw16699021005445740740:True:=⟨⟩
theorem tw16574621092034896663:True:=⟨⟩
theorem tw78821878542046436:True:=⟨⟩
theorem tw17368737079299301957:True:=⟨⟩
theorem tw13833192203524375535:True:=⟨⟩
theorem tw10160543294545325581:True:=⟨⟩
theorem tw10383854535186551748:True:=⟨⟩
theorem tw17164966813495012710:True:=⟨⟩
theorem tw2087745780522024063:True:=⟨⟩
theorem tw2787157809929197375:True:=⟨⟩
theorem tw18156752834987077599:True:=⟨⟩
theorem tw16230551042886592229:True:=⟨⟩
theorem tw12163892483378636427:True:=⟨⟩
theorem tw14241387574391624834:True:=⟨⟩
theorem tw6290786567587474949:True:=⟨⟩
theorem tw6374847182562764080:True:=⟨⟩
theorem tw5783247864681402475:True:=⟨⟩
theorem tw7826363117660298019:True:=⟨⟩
theorem tw5293887399664552683:True:=⟨⟩
theorem tw3939469607410190207:True:=⟨⟩
theorem tw11665703971931044892:True:=⟨⟩
theorem tw13041375905989771770:True:=⟨⟩
theorem tw7115306903422578888:True:=⟨⟩
theorem tw17599153231346114551:True:=⟨⟩
theorem tw17609326985085162448:True:=⟨⟩
theorem tw11970010295166223205:True:=⟨⟩
theorem tw10331270167417133122:True:=⟨⟩
theorem tw7597840540806660622:True:=⟨⟩
theorem tw7621663944391995100:True:=⟨⟩
theorem tw992764311082041420:True:=⟨⟩
theorem tw14682963914223380923:True:=⟨⟩
theorem tw13951383056920658399:True:=⟨⟩
theorem tw992444808486768452:True:=⟨⟩
theorem tw9716963747115221249:True:=⟨⟩
theorem tw12267867335285347587:True:=⟨⟩
theorem tw9100467582852826738:True:=⟨⟩
theorem tw15436908519256937023:True:=⟨⟩
theorem tw4643317854239689906:True:=⟨⟩
theorem tw10907234988196048825:True:=⟨⟩
theorem tw7279763905044969228:True:=⟨⟩
theorem tw5781045947691260840:True:=⟨⟩
theorem tw14484725941797633609:True:=⟨⟩
theorem tw2334997618433033540:True:=⟨⟩
theorem tw7238876222261506717:True:=⟨⟩
theorem tw10881042913517408459:True:=⟨⟩
theorem tw3567703654649356681:True:=⟨⟩
theorem tw17106610706908027624:True:=⟨⟩
theorem tw2908114922043038035:True:=⟨⟩
theorem tw14174901071529318222:True:=⟨⟩
theorem tw13305664090717309232:True:=⟨⟩
theorem tw14180337888968662836:True:=⟨⟩
theorem tw9028449039380711873:True:=⟨⟩
theorem tw5424319271147935230:True:=⟨⟩
theorem tw3211351299099465819:True:=⟨⟩
theorem tw6604117328278563518:True:=⟨⟩
theorem tw985285299154738391:True:=⟨⟩
theorem tw7031014464427658330:True:=⟨⟩
theorem tw3454385251019387413:True:=⟨⟩
theorem tw11518305856749946159:True:=⟨⟩
theorem tw15375202909102615629:True:=⟨⟩
theorem tw7169460394549549526:True:=⟨⟩
theorem tw12845664416305009472:True:=⟨⟩
theorem tw11644616234698703524:True:=⟨⟩
theorem tw14931287647283222285:True:=⟨⟩
theorem tw4029179946005100112:True:=⟨⟩
theorem tw12261316083346952758:True:=⟨⟩
theorem tw14657840142469317890:True:=⟨⟩
theorem tw16938366690545753078:True:=⟨⟩
theorem tw11479355430187715834:True:=⟨⟩
theorem tw3309714070443466995:True:=⟨⟩
theorem tw18197457532175245575:True:=⟨⟩
theorem tw11917275877436047723:True:=⟨⟩
theorem tw5201317015418335322:True:=⟨⟩
theorem tw8193654510968325537:True:=⟨⟩
theorem tw16563635587626012145:True:=⟨⟩
theorem tw11585794433887052698:True:=⟨⟩
theorem tw16981402828102325016:True:=⟨⟩
theorem tw17801432415830083190:True:=⟨⟩
theorem tw13865509192894789145:True:=⟨⟩
theorem tw1944867633281878956:True:=⟨⟩
theorem tw18433722018679920143:True:=⟨⟩
theorem tw16848781377422491763:True:=⟨⟩
theorem tw567352417957428532:True:=⟨⟩
theorem tw14627116516438169007:True:=⟨⟩
theorem tw18214114506780742857:True:=⟨⟩
theorem tw8916778736319103351:True:=⟨⟩
theorem tw1829269720866108228:True:=⟨⟩
theorem tw16753184449987596502:True:=⟨⟩
theorem tw13664949211440585713:True:=⟨⟩
theorem tw6792748674648310533:True:=⟨⟩
theorem tw10653690278782876756:True:=⟨⟩
theorem tw2488038586280914602:True:=⟨⟩
theorem tw3585745982730993770:True:=⟨⟩
theorem tw11775587157117422854:True:=⟨⟩
theorem tw8157114004536015597:True:=⟨⟩
theorem tw7655713776370925779:True:=⟨⟩
theorem tw3324542093635152055:True:=⟨⟩
theorem tw12282797537782582905:True:=⟨⟩
theorem tw1745771399111095148:True:=⟨⟩
theorem tw15385297606511832015:True:=⟨⟩
theorem tw3565603880269362702:True:=⟨⟩
theorem tw16033253612336528497:True:=⟨⟩
theorem tw3707608703089204553:True:=⟨⟩
theorem tw4798632982166361698:True:=⟨⟩
theorem tw725841438648960014:True:=⟨⟩
theorem tw6431223825951452010:True:=⟨⟩
theorem tw604366334077122321:True:=⟨⟩
theorem tw7815466255329777487:True:=⟨⟩
theorem tw740704880771907113:True:=⟨⟩
theorem tw18020265634717400058:True:=⟨⟩
theorem tw15491199228837544966:True:=⟨⟩
theorem tw5814868136643014594:True:=⟨⟩
theorem tw3591266838540455574:True:=⟨⟩
theorem tw3623033126229230673:True:=⟨⟩
theorem tw2755590451873438147:True:=⟨⟩
theorem tw8383958547783771074:True:=⟨⟩
theorem tw1605263279337570884:True:=⟨⟩
theorem tw13280249390472280158:True:=⟨⟩
theorem tw2071646080483457125:True:=⟨⟩
theorem tw9623801750558524788:True:=⟨⟩
theorem tw12965969122446507378:True:=⟨⟩
theorem tw418964969739398906:True:=⟨⟩
theorem tw5509490722276756413:True:=⟨⟩
theorem tw4678090686989279676:True:=⟨⟩
theorem tw7601504725074033607:True:=⟨⟩
theorem tw8339626500891895183:True:=⟨⟩
theorem tw6888219294946946741:True:=⟨⟩
theorem tw939988390640775485:True:=⟨⟩
theorem tw13195233903789407609:True:=⟨⟩
theorem tw12218852788308978312:True:=⟨⟩
theorem tw8057406802420980323:True:=⟨⟩
theorem tw6973312936396584614:True:=⟨⟩
theorem tw18273789283635029168:True:=⟨⟩
theorem tw6002900631275352585:True:=⟨⟩
theorem tw9990362700508643383:True:=⟨⟩
theorem tw15728202195891409342:True:=⟨⟩
theorem tw3732638627787946250:True:=⟨⟩
theorem tw11064696467411711294:True:=⟨⟩
theorem tw8079907184939518080:True:=⟨⟩
theorem tw1045795804801827563:True:=⟨⟩
theorem tw98041275243140571:True:=⟨⟩
theorem tw8856059614428951603:True:=⟨⟩
theorem tw10312924615357816830:True:=⟨⟩
theorem tw4685817748680390770:True:=⟨⟩
theorem tw9272786233204225125:True:=⟨⟩
theorem tw14844037844139514061:True:=⟨⟩
theorem tw6729179244839682074:True:=⟨⟩
theorem tw14453004634056197104:True:=⟨⟩
theorem tw8657599783426985292:True:=⟨⟩
theorem tw13499814445554124554:True:=⟨⟩
theorem tw4848471758122844788:True:=⟨⟩
theorem tw8239117459824034436:True:=⟨⟩
theorem tw1753944802245949756:True:=⟨⟩
theorem tw10655319898858600627:True:=⟨⟩
theorem tw9343118426318160667:True:=⟨⟩
theorem tw14591843475356347006:True:=⟨⟩
theorem tw782516541939540667:True:=⟨⟩
theorem tw14952276439594783773:True:=⟨⟩
theorem tw18245286543678280182:True:=⟨⟩
theorem tw5081277726938512785:True:=⟨⟩
theorem tw84185201643668688:True:=⟨⟩
theorem tw12637578891274437891:True:=⟨⟩
theorem tw15308549066108514350:True:=⟨⟩
theorem tw10668921859451206084:True:=⟨⟩
theorem tw2949114077536792793:True:=⟨⟩
theorem tw14692026733246060247:True:=⟨⟩
theorem tw6144972084685027421:True:=⟨⟩
theorem tw8109546691191797322:True:=⟨⟩
theorem tw7951716868063849574:True:=⟨⟩
theorem tw6618004982819086362:True:=⟨⟩
theorem tw4921454794750821835:True:=⟨⟩
theorem tw14014304777143313736:True:=⟨⟩
theorem tw5753390280626680745:True:=⟨⟩
theorem tw13701544147035719430:True:=⟨⟩
theorem tw2250390570460169319:True:=⟨⟩
theorem tw5541543686445662841:True:=⟨⟩
theorem tw18161300966465789229:True:=⟨⟩
theorem tw12893153067727781053:True:=⟨⟩
theorem tw9346374493973265041:True:=⟨⟩
theorem tw13875384242594580120:True:=⟨⟩
theorem tw1274986619382284579:True:=⟨⟩
theorem tw1085668760664082260:True:=⟨⟩
theorem tw9241394592093630892:True:=⟨⟩
theorem tw14449005524881526990:True:=⟨⟩
theorem tw11912353450544551491:True:=⟨⟩
theorem tw2602105683978080075:True:=⟨⟩
theorem tw10731182810884063628:True:=⟨⟩
theorem tw2964725085181533662:True:=⟨⟩
theorem tw10492956519334074247:True:=⟨⟩
theorem tw13761925460530124404:True:=⟨⟩
theorem tw13095205518068421805:True:=⟨⟩
theorem tw16660317587054258543:True:=⟨⟩
theorem tw2108976513734107520:True:=⟨⟩
theorem tw2894815622758725235:True:=⟨⟩
theorem tw18144263108422584795:True:=⟨⟩
theorem tw4784747033620772611:True:=⟨⟩
theorem tw6123540472467508727:True:=⟨⟩
theorem tw6049402676564449779:True:=⟨⟩
theorem tw12565886701773133325:True:=⟨⟩
theorem tw2250009185444826356:True:=⟨⟩
theorem tw3990971028516059598:True:=⟨⟩
theorem tw14705701610498108986:True:=⟨⟩
theorem tw17278677961434629854:True:=⟨⟩
theorem tw3355435466138071948:True:=⟨⟩
theorem tw202192490319524052:True:=⟨⟩
theorem tw282311890823777018:True:=⟨⟩
theorem tw4978570186178783747:True:=⟨⟩
theorem tw7756075070336721999:True:=⟨⟩
theorem tw3097173481609625138:True:=⟨⟩
theorem tw18367909756609581041:True:=⟨⟩
theorem tw4519580245617660342:True:=⟨⟩
theorem tw17341555712121617888:True:=⟨⟩
theorem tw28076814148512896:True:=⟨⟩
theorem tw9267298511421694313:True:=⟨⟩
theorem tw17468381548166947500:True:=⟨⟩
theorem tw6929137900626443049:True:=⟨⟩
theorem tw13840110357061283026:True:=⟨⟩
theorem tw9398865182454688108:True:=⟨⟩
theorem tw10449112152960004661:True:=⟨⟩
theorem tw16321438264877843888:True:=⟨⟩
theorem tw17309393345615252858:True:=⟨⟩
theorem tw17036177282461978186:True:=⟨⟩
theorem tw5771911857735198660:True:=⟨⟩
theorem tw11767377827562502183:True:=⟨⟩
theorem tw4837220673255678963:True:=⟨⟩
theorem tw2981122014317079341:True:=⟨⟩
theorem tw12752041115877103255:True:=⟨⟩
theorem tw11650040459141482781:True:=⟨⟩
theorem tw5619156570683843484:True:=⟨⟩
theorem tw2502233631981218678:True:=⟨⟩
theorem tw9385483485731881294:True:=⟨⟩
theorem tw14561455802734697986:True:=⟨⟩
theorem tw10524505314173387863:True:=⟨⟩
theorem tw6915168069681264995:True:=⟨⟩
theorem tw10773851339449991411:True:=⟨⟩
theorem tw13489895744573029733:True:=⟨⟩
theorem tw12879233305930897019:True:=⟨⟩
theorem tw2568269046351873648:True:=⟨⟩
theorem tw13093329728374602379:True:=⟨⟩
theorem tw13559721396527831611:True:=⟨⟩
theorem tw12643368729854584999:True:=⟨⟩
theorem tw8241234838598708074:True:=⟨⟩
theorem tw3292236411201201344:True:=⟨⟩
theorem tw16738776692440243265:True:=⟨⟩
theorem tw2565097277741451548:True:=⟨⟩
theorem tw15238178131249426731:True:=⟨⟩
theorem tw899338106623517624:True:=⟨⟩
theorem tw3171109318157514823:True:=⟨⟩
theorem tw13577127249757663746:True:=⟨⟩
theorem tw12990861433990481352:True:=⟨⟩
theorem tw18446718497481277441:True:=⟨⟩
theorem tw5464934495849876838:True:=⟨⟩
theorem tw1502367349249314722:True:=⟨⟩
theorem tw9548564514369835419:True:=⟨⟩
theorem tw15919701099326125174:True:=⟨⟩
theorem tw3118367586843089773:True:=⟨⟩
theorem tw4762884288741630389:True:=⟨⟩
theorem tw10593843614533592462:True:=⟨⟩
theorem tw9946397949170245810:True:=⟨⟩
theorem tw9473176670078721390:True:=⟨⟩
theorem tw5573737859098474325:True:=⟨⟩
theorem tw14847610146185231080:True:=⟨⟩
theorem tw14736497227345703681:True:=⟨⟩
theorem tw836277919585895044:True:=⟨⟩
theorem tw13061837925183353613:True:=⟨⟩
theorem tw4413746914770432344:True:=⟨⟩
theorem tw14880434035177490046:True:=⟨⟩
theorem tw7289374825917562428:True:=⟨⟩
theorem tw12103599929226598972:True:=⟨⟩
theorem tw10313976815902630435:True:=⟨⟩
theorem tw15403003233659662177:True:=⟨⟩
theorem tw8762218353136860374:True:=⟨⟩
theorem tw7466662422636815194:True:=⟨⟩
theorem tw16857857216210123354:True:=⟨⟩
theorem tw12046633084867820513:True:=⟨⟩
theorem tw12340949633221638303:True:=⟨⟩
theorem tw5348939699487194651:True:=⟨⟩
theorem tw11044498929398606525:True:=⟨⟩
theorem tw17777408188961326934:True:=⟨⟩
theorem tw3236992294640134489:True:=⟨⟩
theorem tw16442120465066777201:True:=⟨⟩
theorem tw881265562943312268:True:=⟨⟩
theorem tw3583090736901246416:True:=⟨⟩
theorem tw9366417199074264551:True:=⟨⟩
theorem tw16114074959968071624:True:=⟨⟩
theorem tw12815979947200306136:True:=⟨⟩
theorem tw13498624953898554599:True:=⟨⟩
theorem tw16232454430280523965:True:=⟨⟩
theorem tw11171467423817709816:True:=⟨⟩
theorem tw3784107442304529737:True:=⟨⟩
theorem tw9215762484179369568:True:=⟨⟩
theorem tw558533903657962601:True:=⟨⟩
theorem tw8789231535841931407:True:=⟨⟩
theorem tw4434611054155280942:True:=⟨⟩
theorem tw10660155399608566661:True:=⟨⟩
theorem tw9489044476142877548:True:=⟨⟩
theorem tw16680244128086364703:True:=⟨⟩
theorem tw12228260566810870208:True:=⟨⟩
theorem tw12809923026988148784:True:=⟨⟩
theorem tw3191735543455076273:True:=⟨⟩
theorem tw11464223745404678363:True:=⟨⟩
theorem tw8412245790445212526:True:=⟨⟩
theorem tw10762432299031802355:True:=⟨⟩
theorem tw10489938312155622426:True:=⟨⟩
theorem tw8524334585514622941:True:=⟨⟩
theorem tw14671055230591597110:True:=⟨⟩
theorem tw10066973255167476095:True:=⟨⟩
theorem tw11365961764967508227:True:=⟨⟩
theorem tw11193448751276299750:True:=⟨⟩
theorem tw9631840640609970787:True:=⟨⟩
theorem tw13606869607986561819:True:=⟨⟩
theorem tw8198581517189651095:True:=⟨⟩
theorem tw4154783080167258789:True:=⟨⟩
theorem tw6279819422922721183:True:=⟨⟩
theorem tw349782915877371405:True:=⟨⟩
theorem tw13027002627479324826:True:=⟨⟩
theorem tw18253171654537788413:True:=⟨⟩
theorem tw9408779466912788454:True:=⟨⟩
theorem tw5044384678815673949:True:=⟨⟩
theorem tw13144868791331473538:True:=⟨⟩
theorem tw16427863843643752011:True:=⟨⟩
theorem tw15247465343393099511:True:=⟨⟩
theorem tw551671917739717221:True:=⟨⟩
theorem tw16801280219201212714:True:=⟨⟩
theorem tw18096929059789222043:True:=⟨⟩
theorem tw16893299599537928878:True:=⟨⟩
theorem tw18348016594401078326:True:=⟨⟩
theorem tw10290510992771743805:True:=⟨⟩
theorem tw4123616569357412243:True:=⟨⟩
theorem tw6648775765360598201:True:=⟨⟩
theorem tw4920981989132759574:True:=⟨⟩
theorem tw9565720251884774522:True:=⟨⟩
theorem tw17827784363709856512:True:=⟨⟩
theorem tw8942704606804027654:True:=⟨⟩
theorem tw18167015566159650937:True:=⟨⟩
theorem tw8427768650711858613:True:=⟨⟩
theorem tw9548992340458209759:True:=⟨⟩
theorem tw597045924788489569:True:=⟨⟩
theorem tw481399781365314762:True:=⟨⟩
theorem tw10212038443497080514:True:=⟨⟩
theorem tw1719760738259638905:True:=⟨⟩
theorem tw12709576836193950518:True:=⟨⟩
theorem tw13851846888414333253:True:=⟨⟩
theorem tw6970256264783509597:True:=⟨⟩
theorem tw2229748728548926701:True:=⟨⟩
theorem tw14251846162072614089:True:=⟨⟩
theorem tw11336153778385394577:True:=⟨⟩
theorem tw5821397938677351209:True:=⟨⟩
theorem tw5993603865126859631:True:=⟨⟩
theorem tw16221427446806169080:True:=⟨⟩
theorem tw18260596706895534676:True:=⟨⟩
theorem tw10001769265872009096:True:=⟨⟩
theorem tw12163751178863784164:True:=⟨⟩
theorem tw11338808234893893318:True:=⟨⟩
theorem tw1259124301044410959:True:=⟨⟩
theorem tw15095214873449260118:True:=⟨⟩
theorem tw4908287527017990420:True:=⟨⟩
theorem tw3664383125310055352:True:=⟨⟩
theorem tw10669176795497998290:True:=⟨⟩
theorem tw12072020958033044145:True:=⟨⟩
theorem tw13322077279323533095:True:=⟨⟩
theorem tw9033323859668305034:True:=⟨⟩
theorem tw10423007532722432841:True:=⟨⟩
theorem tw1442075771289407286:True:=⟨⟩
theorem tw2517052282683017728:True:=⟨⟩
theorem tw16089376465210991606:True:=⟨⟩
theorem tw417507959604321237:True:=⟨⟩
theorem tw8733083394239301236:True:=⟨⟩
theorem tw13796592284367077480:True:=⟨⟩
theorem tw15437086244237754273:True:=⟨⟩
theorem tw11453432715836440111:True:=⟨⟩
theorem tw11193616245317085959:True:=⟨⟩
theorem tw16493542192769039019:True:=⟨⟩
theorem tw5860477636243615922:True:=⟨⟩
theorem tw9833187671356994438:True:=⟨⟩
theorem tw6133756839394355171:True:=⟨⟩
theorem tw1532360590044284948:True:=⟨⟩
theorem tw2715805608197127693:True:=⟨⟩
theorem tw8042073394173417393:True:=⟨⟩
theorem tw15648940670719217983:True:=⟨⟩
theorem tw6936067975929914250:True:=⟨⟩
theorem tw4085750892885592281:True:=⟨⟩
theorem tw10841322032456340322:True:=⟨⟩
theorem tw8927406871664244968:True:=⟨⟩
theorem tw8356914205502823619:True:=⟨⟩
theorem tw18435997783246925347:True:=⟨⟩
theorem tw1742241591572603352:True:=⟨⟩
theorem tw13609587884527562212:True:=⟨⟩
theorem tw2222831384474467009:True:=⟨⟩
theorem tw6150828041448055123:True:=⟨⟩
theorem tw1764127101490158917:True:=⟨⟩
theorem tw6222592057362873140:True:=⟨⟩
theorem tw5778265984377813098:True:=⟨⟩
theorem tw3167709365785021147:True:=⟨⟩
theorem tw162762705926147758:True:=⟨⟩
theorem tw582714027924547313:True:=⟨⟩
theorem tw4648921100432725917:True:=⟨⟩
theorem tw12965908754499454205:True:=⟨⟩
theorem tw3366288609848492651:True:=⟨⟩
theorem tw15040175849644476174:True:=⟨⟩
theorem tw10361625007464594463:True:=⟨⟩
theorem tw12465412870340621644:True:=⟨⟩
theorem tw16580049014719662639:True:=⟨⟩
theorem tw9480278809396973450:True:=⟨⟩
theorem tw12059745447761216717:True:=⟨⟩
theorem tw72765455010708384:True:=⟨⟩
theorem tw127049348281750480:True:=⟨⟩
theorem tw10266839064493502014:True:=⟨⟩
theorem tw618454752036339951:True:=⟨⟩
theorem tw4881449086486639602:True:=⟨⟩
end PySem.W.Fast
open PySem PySem.W PyProof.Rows
set_option maxRecDepth 100000 in
set_option maxHeartbeats 0 in
theorem PySem.Challenge.cw_gapweave_k43_join_paper_holds : PySem.Challenge.rw_gapweave_k43_join_paper.Holds := by
 w_on;o_law;z_head;(case hw=>w_witness2)
 k_fill
 refine G43.walk (l:=PySem.Challenge.rw_gapweave_k43_join_paper) rfl rfl (λ_=>by kernel_rfl) (λ_=>by kernel_rfl) ?F
 case F =>
  intro w mg fa h KX G hmg
  refine' G43.all_mk KX G hmg ?u0 ?u1 ?u2 ?u3 ?u4 ?u5 ?u6 ?u7 ?u8 ?u9 ?u10 ?u11 ?u12 ?u13 ?u14 ?u15 ?u16 ?u17 ?u18 ?u19 ?u20 ?u21 ?u22 ?u23 ?u24 ?u25 ?u26 ?u27 ?u28 ?u29 ?u30 ?u31 ?u32 ?u33 ?u34 ?u35 ?u36 ?u37 ?u38 ?u39 ?u40 ?u41 ?u42 ?u43 ?u44 ?u45 ?u46 ?u47 ?u48 ?u49 ?u50 ?u51 ?u52 ?u53 ?u54 ?u55 ?u56 ?u57 ?u58 ?u59 ?u60 ?u61 ?u62 ?u63 ?u64 ?u65 ?u66 ?u67 ?u68 ?u69 ?u70 ?u71 ?u72 ?u73 ?u74 ?u75 ?u76 ?u77 ?u78 ?u79 ?u80 ?u81 ?u82 ?u83 ?u84 ?u85 ?u86 ?u87 ?u88 ?u89 ?u90 ?u91 ?u92 ?u93 ?u94 ?u95 ?u96 ?u97 ?u98 ?u99 ?u100 ?u101 ?u102 ?u103 ?u104 ?u105 ?u106 ?u107 ?u108 ?u109 ?u110 ?u111 ?u112 ?u113 ?u114 ?u115 ?u116 ?u117 ?u118 ?u119 ?u120 ?u121 ?u122 ?u123 ?u124 ?u125 ?u126 ?u127 ?u128 ?u129 ?u130 ?u131 ?u132 ?u133 ?u134 ?u135 ?u136 ?u137 ?u138 ?u139 ?u140 ?u141 ?u142 ?u143 ?u144 ?u145 ?u146 ?u147 ?u148 ?u149 ?u150 ?u151 ?u152 ?u153 ?u154 ?u155 ?u156 ?u157 ?u158 ?u159 ?u160 ?u161 ?u162 ?u163 ?u164 ?u165 ?u166 ?u167 ?u168 ?u169 ?u170 ?u171 ?u172 ?u173 ?u174
  case u0|u1|u2|u3|u4|u5|u7|u8|u9|u10|u11|u12|u13|u14|u15|u16|u17|u27|u28|u29|u30|u31|u32|u33|u35|u36|u37|u38|u39|u40|u41|u50|u51|u53|u54|u55|u56|u57|u58|u59|u60|u61|u62|u63|u64|u65|u67|u68|u74|u75|u76|u77|u78|u79|u93|u94|u95|u96|u97|u112|u113|u114|u115|u116|u128|u129|u130|u131|u132|u154|u155|u156|u157|u159|u160|u161|u162|u163|u164|u165|u166|u167|u168|u169|u170|u171|u172|u173|u174=>k_is
  case u6=>decide
  case u18|u19|u20|u21|u22|u23|u24|u25|u26|u34|u42|u43|u44|u45|u46|u47|u48|u49|u69|u70=>(show PySem.W.findIn _ _ _=_;k_is)
  case u52=>k_exc
  case u66|u71|u72|u73|u158=>kernel_rfl
  case u80|u81|u82|u83|u84|u85|u86|u87|u88|u89|u90|u91|u92|u98|u99|u100|u101|u102|u103|u104|u105|u106|u107|u108|u109|u110|u111|u117|u118|u119|u120|u121|u122|u123|u124|u125|u126|u127|u133|u134|u135|u136|u137|u138|u139|u140|u141|u142|u143|u144|u145|u146|u147|u148|u149|u150|u151|u152|u153=>(refine' G43.DfN.mk ?a ?l ?c ?k;(case a=>k_is);(case l=>k_is);(case c=>k_is);(case k=>k_is))
