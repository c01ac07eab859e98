import PyProof.Rows.All
import Wide.All
import OpenK.AllK
import Wide.FinOn
import Lean
import PyProof.EqAt
import PyProof.EqKinds
import PyProof.TupleCall
import PyProof.NeKinds
import PyProof.Rows.StrStrike
import PyProof.SumWalkG
import PyProof.StrCalls2
import PyProof.Rows.StrItems
import PyProof.Rows.StrJoin2
import PySem.Challenge.RW_gapweave_k41_block_cost
set_option Elab.async false
set_option linter.all false
set_option maxRecDepth 100000
namespace TK
open PySem
theorem runs_toks {M : Model} {Γ : Ctx} {p : Pos} {t : Sem PySem.Fin} {fs : List Frame} {s s' : Shared} {e : End} (h : Runs M Γ p t fs s e s') : s.toks ≤ s'.toks := by
  induction h with
  | fresh _ ih => exact Nat.le_trans (Nat.le_succ _) ih
  | call _ _ a b => exact Nat.le_trans a b
  | segRet _ _ a b => exact Nat.le_trans a b
  | segGen _ _ a b => exact Nat.le_trans a b
  | resumeFresh _ _ _ _ a b => exact Nat.le_trans a b
  | resumeSuspended _ _ _ _ a b => exact Nat.le_trans a b
  | segSuspGen _ _ _ _ a b => exact Nat.le_trans a b
  | _ => first | exact Nat.le_refl _ | assumption
theorem wakes_toks {M : Model} {Γ : Ctx} {p : Pos} {g : Nat} {r : Resume} {s s' : Shared} {res : GenResult} (h : Wakes M Γ p g r s res s') : s.toks ≤ s'.toks := by
  unfold Wakes at h
  split at h
  · exact h.elim
  · split at h
    · obtain ⟨e, s1, a, _, _, rfl⟩ := h; have z := runs_toks a; exact z
    · obtain ⟨_, rfl⟩ := h; exact Nat.le_refl _
    · obtain ⟨_, rfl⟩ := h; exact Nat.le_refl _
  · obtain ⟨e, s1, a, _, _, rfl⟩ := h; have z := runs_toks a; exact z
  · obtain ⟨_, rfl⟩ := h; exact Nat.le_refl _
  · obtain ⟨_, rfl⟩ := h; exact Nat.le_refl _
theorem wp_up {α : Type} {M : Model} {Γ : Ctx} {n : Nat} (t : Sem α) : ∀ {Q : α → Pos → Shared → Prop} {E : Value → Pos → Shared → Prop} {p : Pos} {s : Shared}, n ≤ s.toks →
    Sem.wp M Γ t (fun a p s' => n ≤ s'.toks → Q a p s') (fun e p s' => n ≤ s'.toks → E e p s') p s → Sem.wp M Γ t Q E p s := by
  induction t with
  | pure a => intro Q E p s hn h; exact h hn
  | raise e => intro Q E p s hn h; exact h hn
  | unsupported w => intro Q E p s hn h; exact h
  | finish e => intro Q E p s hn h; exact h
  | rule t k ih => intro Q E p s hn h; exact ih () hn h
  | «at» p' k ih => intro Q E p s hn h; exact ih () hn h
  | load a q k ih => intro Q E p s hn h; obtain ⟨o, e, h⟩ := h; exact ⟨o, e, ih o hn h⟩
  | update a q f k ih => intro Q E p s hn h; exact ⟨h.1, ih () hn h.2⟩
  | alloc o k ih => intro Q E p s hn h; exact ih _ hn h
  | loadIfAlive a k ih => intro Q E p s hn h; exact ih _ hn h
  | point l k ih => intro Q E p s hn h; exact ih () hn h
  | register a k ih => intro Q E p s hn h; exact h
  | fresh k ih => intro Q E p s hn h; exact ih _ (Nat.le_succ_of_le hn) h
  | ask k ih => intro Q E p s hn h; exact ih _ hn h
  | choose src m k ih => intro Q E p s hn h; exact ⟨h.1, ih _ hn h.2⟩
  | os q l k ih => intro Q E p s hn h; exact ih _ hn h
  | call c hd g l k ih => intro Q E p s hn h; obtain ⟨r, s1, a, h⟩ := h; exact ⟨r, s1, a, ih r (Nat.le_trans hn (runs_toks a)) h⟩
  | handled own k ih => intro Q E p s hn h; exact ih _ hn h
  | newGen c k ih => intro Q E p s hn h; exact ih _ hn h
  | genState g k ih => intro Q E p s hn h; obtain ⟨st, e, h⟩ := h; exact ⟨st, e, ih _ hn h⟩
  | resume g r l k ih => intro Q E p s hn h; obtain ⟨res, s1, a, h⟩ := h; exact ⟨res, s1, a, ih _ (Nat.le_trans hn (wakes_toks a)) h⟩
  | yield v g l k ih => intro Q E p s hn h; exact h
  | stack k ih => intro Q E p s hn h; exact ih _ hn h
  | fork c k ih => intro Q E p s hn h; exact h
  | thread k ih => intro Q E p s hn h; exact ih _ hn h
  | await a tk tm l k ih => intro Q E p s hn h; exact h
theorem wpAny_up {α : Type} {M : Model} {A : Around} {t : Sem α} {Q : α → Shared → Prop} {E : Value → Shared → Prop} {s : Shared} {n : Nat} (hn : n ≤ s.toks) (h : wpAny M A t (fun a s' => n ≤ s'.toks → Q a s') (fun e s' => n ≤ s'.toks → E e s') s) : wpAny M A t Q E s :=
  fun Γ p hΓ => wp_up t hn (h Γ p hΓ)
theorem codeAny_up {M : Model} {A : Around} {c : Code} {R : Result → Shared → Prop} {s : Shared} {n : Nat} (hn : n ≤ s.toks) (h : codeAny M A c (fun r s' => n ≤ s'.toks → R r s') s) : codeAny M A c R s := fun Γ p hc hb => by
  obtain ⟨r, s1, a, h⟩ := h Γ p hc hb
  exact ⟨r, s1, a, h (Nat.le_trans hn (runs_toks a))⟩
end TK

set_option Elab.async false
set_option linter.all false
set_option maxRecDepth 100000
namespace L2
open PySem PySem.Spec PyProof.Rows
abbrev Key := Sum Int Str
def keyIs : Key → Value → Bool
  | .inl k, v => Value.isInt k v
  | .inr x, v => Value.isStrOf x v
def keyH (w : World) : Key → Int
  | .inl k => hashInt k
  | .inr x => hashStr w x
theorem keyIs_shape : ∀ {k : Key} {v : Value}, keyIs k v = true → (∃ i t, k = Sum.inl i ∧ v = Value.int i t) ∨ (∃ x t, k = Sum.inr x ∧ v = Value.str x t)
  | .inl i, v, h => by
    obtain ⟨t, e⟩ := Value.isInt_shape (k := i) (v := v) h
    exact .inl ⟨i, t, rfl, e⟩
  | .inr x, v, h => by
    obtain ⟨t, e⟩ := Value.isStrOf_shape (x := x) (v := v) h
    exact .inr ⟨x, t, rfl, e⟩
theorem keyIs_int (i : Int) (t : Tok) : keyIs (.inl i) (.int i t) = true := by simp [keyIs, Value.isInt]
theorem keyIs_str (x : Str) (t : Tok) : keyIs (.inr x) (.str x t) = true := by simp [keyIs, Value.isStrOf]
theorem key_ll (a b : Int) : decide ((Sum.inl a : Key) = Sum.inl b) = (a == b) := by
  by_cases e : a = b
  · subst e; simp
  · have h : ¬ (Sum.inl a : Key) = Sum.inl b := fun q => e (Sum.inl.inj q)
    rw [decide_eq_false h]
    exact (beq_eq_false_iff_ne.mpr e).symm
theorem key_rr (a b : Str) : decide ((Sum.inr a : Key) = Sum.inr b) = decide (a = b) := by
  by_cases e : a = b
  · subst e; simp
  · have h : ¬ (Sum.inr a : Key) = Sum.inr b := fun q => e (Sum.inr.inj q)
    rw [decide_eq_false h, decide_eq_false e]
theorem key_lr (a : Int) (b : Str) : decide ((Sum.inl a : Key) = Sum.inr b) = false := decide_eq_false (fun q => nomatch q)
theorem key_rl (a : Str) (b : Int) : decide ((Sum.inr a : Key) = Sum.inl b) = false := decide_eq_false (fun q => nomatch q)
def mixKind (prog : Program) (w : World) : PySem.KeyKind prog w Key where
  is := keyIs
  hash := keyH w
  inj := fun v a b ha hb => by
    rcases keyIs_shape ha with ⟨i, t, rfl, rfl⟩ | ⟨x, t, rfl, rfl⟩
    · rcases keyIs_shape hb with ⟨j, u, rfl, e⟩ | ⟨y, u, rfl, e⟩
      · injection e with e1 _; rw [e1]
      · exact nomatch e
    · rcases keyIs_shape hb with ⟨j, u, rfl, e⟩ | ⟨y, u, rfl, e⟩
      · exact nomatch e
      · injection e with e1 _; rw [e1]
  byValue := fun k v h => by
    rcases keyIs_shape h with ⟨i, t, rfl, rfl⟩ | ⟨x, t, rfl, rfl⟩ <;> rfl
  pyHash := fun hv h => by
    rcases keyIs_shape hv with ⟨i, t, rfl, rfl⟩ | ⟨x, t, rfl, rfl⟩
    · exact wpAny_pyHash_int h
    · exact wpAny_pyHash_str h
  eqBool := fun hu hv h => by
    rcases keyIs_shape hu with ⟨i, t, rfl, rfl⟩ | ⟨x, t, rfl, rfl⟩
    · rcases keyIs_shape hv with ⟨j, u, rfl, rfl⟩ | ⟨y, u, rfl, rfl⟩
      · rw [key_ll] at h; exact wpAny_eqBool_int h
      · rw [key_lr] at h; exact SeqAt.EqAt.int_str i t y u _ _ _ _ h
    · rcases keyIs_shape hv with ⟨j, u, rfl, rfl⟩ | ⟨y, u, rfl, rfl⟩
      · rw [key_rl] at h; exact SeqAt.EqAt.str_int x t j u _ _ _ _ h
      · rw [key_rr] at h; exact wpAny_eqBool_str h
  «strs» := fun k x t v h => by
    rcases keyIs_shape h with ⟨i, u, rfl, e⟩ | ⟨y, u, rfl, e⟩
    · exact nomatch e
    · injection e with e1 _
      subst e1
      cases v <;> rfl
theorem mixKind_int (prog : Program) (w : World) (i : Int) (t : Tok) : (mixKind prog w).is (.inl i) (.int i t) = true := keyIs_int i t
theorem mixKind_str (prog : Program) (w : World) (x : Str) (t : Tok) : (mixKind prog w).is (.inr x) (.str x t) = true := keyIs_str x t
end L2
namespace L2
open PySem PySem.Spec PyProof.Rows
inductive V where
  | non | bl (b : Bool) | int (i : Int) | str (x : Str) | byt (b : Array UInt8) | flt (b : UInt64) | ref (a : Addr) | ty (n : String)
  deriving DecidableEq
def RelV : V → Value → Prop
  | .non, u => u = Value.none
  | .bl b, u => u = Value.bool b
  | .int i, u => ∃ t, u = Value.int i t
  | .str x, u => ∃ t, u = Value.str x t
  | .byt b, u => ∃ t, u = Value.bytes b t
  | .flt b, u => ∃ t, u = Value.float b t
  | .ref a, u => u = Value.ref a
  | .ty n, u => u = Value.type n
abbrev Vals : List V → List Value → Prop := Paired RelV
theorem Vals.length {xs : List V} {us : List Value} (r : Vals xs us) : xs.length = us.length := Paired.length r
theorem Vals.get : ∀ {xs : List V} {us : List Value} {i : Nat} {x : V}, Vals xs us → xs[i]? = some x → ∃ u, us[i]? = some u ∧ RelV x u
  | _, _, _, _, .nil, e => by simp at e
  | _, _, 0, _, .cons r _, e => by simp at e; subst e; exact ⟨_, rfl, r⟩
  | _, _, i + 1, x, .cons _ t, e => by
    obtain ⟨u, h1, h2⟩ := Vals.get (i := i) (x := x) t (by simpa using e)
    exact ⟨u, by simpa using h1, h2⟩
theorem Vals.set {x : V} {u : Value} (r : RelV x u) : ∀ {xs : List V} {us : List Value} (i : Nat), Vals xs us → Vals (xs.set i x) (us.set i u)
  | _, _, _, .nil => .nil
  | _, _, 0, .cons _ t => .cons r t
  | _, _, i + 1, .cons q t => .cons q (Vals.set r i t)
theorem Vals.append : ∀ {xs ys : List V} {us ws : List Value}, Vals xs us → Vals ys ws → Vals (xs ++ ys) (us ++ ws)
  | _, _, _, _, .nil, s => s
  | _, _, _, _, .cons r t, s => .cons r (Vals.append t s)
theorem Vals.take : ∀ {xs : List V} {us : List Value} (n : Nat), Vals xs us → Vals (xs.take n) (us.take n)
  | _, _, 0, _ => .nil
  | _, _, _ + 1, .nil => .nil
  | _, _, n + 1, .cons r t => .cons r (Vals.take n t)
theorem Vals.drop : ∀ {xs : List V} {us : List Value} (n : Nat), Vals xs us → Vals (xs.drop n) (us.drop n)
  | _, _, 0, r => r
  | _, _, _ + 1, .nil => .nil
  | _, _, n + 1, .cons _ t => Vals.drop n t
theorem Vals.none_of : ∀ {xs : List V} {us : List Value} {i : Nat}, Vals xs us → xs[i]? = none → us[i]? = none := fun {xs us i} r e => by
  have h1 := r.length
  have h2 : xs.length ≤ i := List.getElem?_eq_none_iff.mp e
  exact List.getElem?_eq_none_iff.mpr (by omega)
def RelO : Option V → Option Value → Prop
  | some v, some u => RelV v u
  | none, none => True
  | _, _ => False
def KV {κ : Type} : List (κ × V) → List (κ × Value) → Prop := Paired fun (p : κ × V) (q : κ × Value) => p.1 = q.1 ∧ RelV p.2 q.2
def kV : Key → V
  | .inl i => .int i
  | .inr x => .str x
inductive HO where
  /-- a list -/
  | lst (xs : List V)
  /-- a tuple (never changes) -/
  | tup (xs : List V)
  /-- a dict whose keys are ints and texts; one whose keys are tuples of ints and texts (the empty one is both) -/
  | dK (kvs : List (Key × V)) | dT (kvs : List (List Key × V))
  /-- a set of ints: its members, its size -/
  | set (S : Int → Bool) (n : Nat)
  /-- an instance of the class at C, its dict at dx, its attributes -/
  | ins (C dx : Addr) (fs : List (Str × V))
  /-- the dict of the instance at x -/
  | own (x : Addr)
  /-- the dict of an exception -/
  | xd (fs : List (Str × V))
  /-- a bound method, f of x -/
  | met (f x : Addr)
  /-- a range object lo, lo + 1, .. below hi -/
  | rng (lo hi : Int)
  /-- a thing that is known to the object (the script; a dict while a loop walks it): read, never written while it is so -/
  | frz (o : Obj) (u : HO)
  /-- a code object's table -/
  | tbl (ps : Array Value)
  /-- any other thing, by what is true of its one object (a def of one's own: SetO a S n := HO.ext fun h => ..) -/
  | ext (φ : Heap → Prop)
abbrev Hp := Addr → Option HO
def upd (H : Hp) (a : Addr) (o : HO) : Hp := fun b => if b = a then some o else H b
theorem upd_same {H : Hp} {a : Addr} {o : HO} : upd H a o a = some o := by unfold upd; rw [if_pos rfl]
theorem upd_ne {H : Hp} {a b : Addr} {o : HO} (h : b ≠ a) : upd H a o b = H b := by unfold upd; rw [if_neg h]
theorem ne_of {H : Hp} {a b : Addr} {o u : HO} (h : H a = some o) (h' : H b = some u) (d : o ≠ u) : a ≠ b := by
  intro e; subst e; rw [h] at h'; exact d (Option.some.inj h')
theorem ne_of_none {H : Hp} {a b : Addr} {o : HO} (h : H a = some o) (h' : H b = none) : a ≠ b := by
  intro e; subst e; rw [h] at h'; cases h'
section
variable (P : Program) (w : World)
def ObjOk (H : Hp) (h : Heap) (a : Addr) : HO → Prop
  | .lst xs => xs.length ≤ sizeLine ∧ ∃ (its : List Value) (n : Nat), Vals xs its ∧ h.get? a = some { cls := .type "list", data := .seq its.toArray n }
  | .tup xs => xs.length ≤ sizeLine ∧ ∃ its : List Value, Vals xs its ∧ IsTup h a its.toArray
  | .dK kvs => kvs.length ≤ sizeLine ∧ (a == sysModules) = false ∧ ∃ vs, KV kvs vs ∧ h.DictOf (mixKind P w) a vs
  | .dT kvs => kvs.length ≤ sizeLine ∧ (a == sysModules) = false ∧ ∃ xs : List (List Key × Addr × Value),
      Paired (fun (p : List Key × V) (q : List Key × Addr × Value) => p.1 = q.1 ∧ H q.2.1 = some (.tup (p.1.map kV)) ∧ RelV p.2 q.2.2) kvs xs ∧
      ∃ o es ep, h.get? a = some o ∧ o.ExactDict ∧ o.data = .dict es ep ∧ es.toList = xs.map (entryOfKey (tupleKind (mixKind P w))) ∧ (xs.map (·.1)).Nodup
  | .set S n => h.SetOf (intKind P w) a S n
  | .ins C dx fs => H dx = some (.own a) ∧ fs.length ≤ 1000 ∧ dx ≠ a ∧ h.get? a = some (PySem.W.instObj C dx) ∧
      ∃ mA, h.Ns1 dx mA ∧ (∀ f, RelO (fs.lookup f) (mA f)) ∧ PySem.Within mA (fs.map (·.1))
  | .own _ => ∃ o, h.get? a = some o
  | .xd fs => ∃ mA, h.Ns1 a mA ∧ ∀ f, RelO (fs.lookup f) (mA f)
  | .rng lo hi => ∃ t u v, h.get? a = some { cls := .type "range", data := .fields #[.int lo t, .int hi u, .int 1 v] }
  | .frz o u => h.get? a = some o ∧ ObjOk H h a u
  | .tbl ps => h.get? a = some { cls := .none, data := .fields ps }
  | .met f x => h.get? a = some (PySem.W.methodObj (.ref f) (.ref x))
  | .ext φ => φ h ∧ (∃ o, h.get? a = some o) ∧ ∀ h1 h2 : Heap, φ h1 → (∀ o, h1.get? a = some o → h2.get? a = some o) → φ h2
def HOk (H : Hp) (h : Heap) : Prop := ∀ a o, H a = some o → ObjOk P w H h a o
end
section
variable {P : Program} {w : World} {H H' : Hp} {h h' : Heap} {a : Addr} {o : HO}
theorem ObjOk.lt (x : ObjOk P w H h a o) : a < h.objs.size := by
  cases o with
  | lst xs => obtain ⟨_, _, _, _, e⟩ := x; exact Heap.lt_size e
  | tup xs => obtain ⟨_, _, _, p⟩ := x; exact p.lt
  | dK kvs => obtain ⟨_, _, _, _, o, _, _, e, _⟩ := x; exact Heap.lt_size e
  | dT kvs => obtain ⟨_, _, _, _, o, _, _, e, _⟩ := x; exact Heap.lt_size e
  | set S n => obtain ⟨o, _, _, _, e, _⟩ := x; exact Heap.lt_size e
  | ins C dx fs => obtain ⟨_, _, _, e, _⟩ := x; exact Heap.lt_size e
  | own y => obtain ⟨_, e⟩ := x; exact Heap.lt_size e
  | xd fs => obtain ⟨_, ⟨_, _, _, e, _⟩, _⟩ := x; exact Heap.lt_size e
  | rng lo hi => obtain ⟨_, _, _, e⟩ := x; exact Heap.lt_size e
  | frz ob u => obtain ⟨e, _⟩ := x; exact Heap.lt_size e
  | tbl ps => exact Heap.lt_size (show h.get? a = some _ from x)
  | met f y => exact Heap.lt_size (show h.get? a = some _ from x)
  | ext φ => obtain ⟨_, ⟨_, e⟩, _⟩ := x; exact Heap.lt_size e
theorem Paired.mapP {α β : Type} {F G : α → β → Prop} : ∀ {l₁ : List α} {l₂ : List β}, Paired F l₁ l₂ → (∀ a b, F a b → G a b) → Paired G l₁ l₂
  | _, _, .nil, _ => .nil
  | _, _, .cons r t, f => .cons (f _ _ r) (Paired.mapP t f)
theorem ObjOk.stay (x : ObjOk P w H h a o) (k : ∀ b u, (b = a ∨ H b = some (.own a)) → h.get? b = some u → h'.get? b = some u)
    (ho : ∀ b, H b = some (.own a) → H' b = some (.own a)) (ht : ∀ b xs, H b = some (.tup xs) → H' b = some (.tup xs)) : ObjOk P w H' h' a o := by
  induction o with
  | lst xs => obtain ⟨z, its, n, r, e⟩ := x; exact ⟨z, its, n, r, k _ _ (.inl rfl) e⟩
  | tup xs => obtain ⟨z, its, r, ob, e, c⟩ := x; exact ⟨z, its, r, ob, k _ _ (.inl rfl) e, c⟩
  | dK kvs => obtain ⟨z, y, vs, r, ob, es, ep, e, c⟩ := x; exact ⟨z, y, vs, r, ob, es, ep, k _ _ (.inl rfl) e, c⟩
  | dT kvs =>
    obtain ⟨z, y, xs, r, ob, es, ep, e, c⟩ := x
    exact ⟨z, y, xs, Paired.mapP r fun p q z => ⟨z.1, ht _ _ z.2.1, z.2.2⟩, ob, es, ep, k _ _ (.inl rfl) e, c⟩
  | set S n => obtain ⟨ob, es, ep, t, e, c⟩ := x; exact ⟨ob, es, ep, t, k _ _ (.inl rfl) e, c⟩
  | ins C dx fs =>
    obtain ⟨d, z, ne, e, mA, ⟨od, es, ep, e2, c⟩, r⟩ := x
    exact ⟨ho _ d, z, ne, k _ _ (.inl rfl) e, mA, ⟨od, es, ep, k _ _ (.inr d) e2, c⟩, r⟩
  | own y => obtain ⟨ob, e⟩ := x; exact ⟨ob, k _ _ (.inl rfl) e⟩
  | xd fs => obtain ⟨mA, ⟨od, es, ep, e, c⟩, r⟩ := x; exact ⟨mA, ⟨od, es, ep, k _ _ (.inl rfl) e, c⟩, r⟩
  | rng lo hi => obtain ⟨t, u, v, e⟩ := x; exact ⟨t, u, v, k _ _ (.inl rfl) e⟩
  | frz ob u ih => obtain ⟨e, q⟩ := x; exact ⟨k _ _ (.inl rfl) e, ih q⟩
  | tbl ps =>
    have e : h.get? a = some { cls := .none, data := .fields ps } := x
    show h'.get? a = some { cls := .none, data := .fields ps }
    exact k a _ (.inl rfl) e
  | met f y =>
    have e : h.get? a = some (PySem.W.methodObj (.ref f) (.ref y)) := x
    show h'.get? a = some (PySem.W.methodObj (.ref f) (.ref y))
    exact k a _ (.inl rfl) e
  | ext φ => obtain ⟨p, ⟨o, e⟩, st⟩ := x; exact ⟨st _ _ p fun o q => k _ _ (.inl rfl) q, ⟨o, k _ _ (.inl rfl) e⟩, st⟩
theorem HOk.lt (x : HOk P w H h) (e : H a = some o) : a < h.objs.size := (x a o e).lt
theorem HOk.fresh (x : HOk P w H h) (e : h.objs.size ≤ a) : H a = none := by
  cases q : H a with
  | none => rfl
  | some u => exact absurd (Nat.lt_of_lt_of_le (x.lt q) e) (Nat.lt_irrefl _)
theorem HOk.kept (x : HOk P w H h) (k : ∀ b u, h.get? b = some u → h'.get? b = some u) : HOk P w H h' := fun a o e =>
  (x a o e).stay (fun b u _ q => k b u q) (fun _ q => q) fun _ _ q => q
theorem HOk.laid (x : HOk P w H h) (k : ∀ b u, h.get? b = some u → h'.get? b = some u) (hp : h.objs.size ≤ a) (new : ObjOk P w (upd H a o) h' a o) : HOk P w (upd H a o) h' := fun b u e => by
  have hn := x.fresh hp
  by_cases hb : b = a
  · subst hb; rw [upd_same] at e; cases e; exact new
  · rw [upd_ne hb] at e
    exact (x b u e).stay (fun c v _ q => k c v q) (fun c q => by rw [upd_ne (ne_of_none q hn)]; exact q) fun c xs q => by rw [upd_ne (ne_of_none q hn)]; exact q
end
def Rd (H : Hp) (a : Addr) (u : HO) : Prop := H a = some u ∨ ∃ o, H a = some (.frz o u)
theorem Rd.ok {P : Program} {w : World} {H : Hp} {h : Heap} {a : Addr} {u : HO} (r : Rd H a u) (x : HOk P w H h) : ObjOk P w H h a u := by
  rcases r with r | ⟨o, r⟩
  · exact x a u r
  · obtain ⟨_, q⟩ := x a _ r
    exact q
def Mut : Option HO → Prop
  | some (.lst _) => True
  | some (.dK _) => True
  | some (.dT _) => True
  | some (.set _ _) => True
  | some (.ins _ _ _) => True
  | some (.ext _) => True
  | _ => False
section
variable {P : Program} {w : World} {H : Hp} {h h' : Heap} {x e : Addr} {o' : HO}
theorem HOk.write (ok : HOk P w H h) (mu : Mut (H x)) (he : e = x ∨ H e = some (.own x)) (k : ∀ b u, b ≠ e → h.get? b = some u → h'.get? b = some u) (heo : ∃ u, h'.get? e = some u)
    (new : ObjOk P w (upd H x o') h' x o') : HOk P w (upd H x o') h' := fun b u q => by
  have nown : ∀ c y, H c = some (.own y) → c ≠ x := fun c y r z => by subst z; rw [r] at mu; exact mu
  have ntup : ∀ c xs, H c = some (.tup xs) → c ≠ x := fun c xs r z => by subst z; rw [r] at mu; exact mu
  by_cases hb : b = x
  · subst hb; rw [upd_same] at q; cases q; exact new
  · rw [upd_ne hb] at q
    by_cases hbe : b = e
    · have q' : H b = some (.own x) := by
        rcases he with z | z
        · exact absurd (hbe.trans z) hb
        · rw [hbe]; exact z
      rw [q] at q'; cases q'
      obtain ⟨v, hv⟩ := heo
      exact ⟨v, by rw [hbe]; exact hv⟩
    · refine (ok b u q).stay (fun c v hc r => k c v ?_ r) (fun c r => by rw [upd_ne (nown c b r)]; exact r) fun c xs r => by rw [upd_ne (ntup c xs r)]; exact r
      rcases hc with rfl | hc
      · exact hbe
      · rintro rfl
        rcases he with z | z
        · exact nown c b hc z
        · rw [hc] at z; cases z; exact hb rfl
end
/-! ### kept unless tracked; of the frames at fs (the callers') the slots may change (an exception that passes writes there); of the records at ex (iterators) nothing is said -/
structure Un (fs ex : List Addr) (H H' : Hp) (h h' : Heap) : Prop where
  keep : ∀ b o, h.get? b = some o → H b = none → b ∉ fs → b ∉ ex → h'.get? b = some o
  slot : ∀ b o, h.get? b = some o → H b = none → b ∈ fs → b ∉ ex → ∃ sl, h'.get? b = some { o with slots := sl }
  free : ∀ b o, h.get? b = some o → H b = none → b ∉ ex → H' b = none
  there : ∀ b o, h.get? b = some o → b ∉ ex → ∃ o', h'.get? b = some o'
  tups : ∀ b xs, H b = some (.tup xs) → H' b = some (.tup xs)
  frzs : ∀ b o u, H b = some (.frz o u) → H' b = some (.frz o u)
  tbls : ∀ b ps, H b = some (.tbl ps) → ∃ more, H' b = some (.tbl (ps ++ more))
section
variable {fs fs' ex ex' : List Addr} {H H1 H2 : Hp} {h h1 h2 h' : Heap} {a x e : Addr} {o : HO}
theorem Un.any (u : Un fs ex H H1 h h1) {b : Addr} {ob : Obj} (q : h.get? b = some ob) (n : H b = none) (hx : b ∉ ex) : ∃ sl, h1.get? b = some { ob with slots := sl } := by
  by_cases hb : b ∈ fs
  · exact u.slot b ob q n hb hx
  · exact ⟨ob.slots, u.keep b ob q n hb hx⟩
theorem Un.kept (k : ∀ b u, h.get? b = some u → h'.get? b = some u) : Un fs ex H H h h' :=
  ⟨fun b ob q _ _ _ => k b ob q, fun b ob q _ _ _ => ⟨ob.slots, k b ob q⟩, fun _ _ _ n _ => n, fun b ob q _ => ⟨ob, k b ob q⟩, fun _ _ q => q, fun _ _ _ q => q, fun _ ps q => ⟨#[], by rw [q]; simp⟩⟩
theorem Un.refl : Un fs ex H H h h := Un.kept fun _ _ q => q
theorem Un.laid (k : ∀ b u, h.get? b = some u → h'.get? b = some u) (hp : h.objs.size ≤ a) (hn : H a = none) : Un fs ex H (upd H a o) h h' where
  keep := fun b u q _ _ _ => k b u q
  slot := fun b u q _ _ _ => ⟨u.slots, k b u q⟩
  free := fun b u q n _ => by rw [upd_ne (Nat.ne_of_lt (Nat.lt_of_lt_of_le (Heap.lt_size q) hp))]; exact n
  there := fun b u q _ => ⟨u, k b u q⟩
  tups := fun b xs q => by rw [upd_ne (ne_of_none q hn)]; exact q
  frzs := fun b u xs q => by rw [upd_ne (ne_of_none q hn)]; exact q
  tbls := fun b ps q => ⟨#[], by rw [upd_ne (ne_of_none q hn), q]; simp⟩
theorem Un.write (mu : Mut (H x)) (he : e = x ∨ H e = some (.own x)) (k : ∀ b u, b ≠ e → h.get? b = some u → h'.get? b = some u) (heo : ∃ u, h'.get? e = some u) : Un fs ex H (upd H x o) h h' := by
  have hx : ∀ b, H b = none → b ≠ x := fun b n z => by subst z; rw [n] at mu; exact mu
  have hb : ∀ b, H b = none → b ≠ e := fun b n z => by
    subst z
    rcases he with r | r
    · exact hx b n r
    · rw [n] at r; cases r
  have hm : ∀ b u, H b = some u → ¬ Mut (some u) → b ≠ x := fun b u q nm z => by subst z; rw [q] at mu; exact nm mu
  refine ⟨fun b u q n _ _ => k b u (hb b n) q, fun b u q n _ _ => ⟨u.slots, k b u (hb b n) q⟩, fun b u q n _ => by rw [upd_ne (hx b n)]; exact n, fun b u q _ => ?_,
    fun b xs q => by rw [upd_ne (hm b _ q fun z => z)]; exact q, fun b u xs q => by rw [upd_ne (hm b _ q fun z => z)]; exact q, fun b ps q => ⟨#[], by rw [upd_ne (hm b _ q fun z => z), q]; simp⟩⟩
  by_cases hbe : b = e
  · subst hbe; exact heo
  · exact ⟨u, k b u hbe q⟩
end
/-! ### the heap without what is tracked -/
def trk (h : Heap) (H : Hp) : List Addr := (List.range h.objs.size).filter fun a => (H a).isSome
def hidT (h : Heap) (H : Hp) : Heap := PySem.W.hideAll h (trk h H)
theorem hidT_size (h : Heap) (H : Hp) : (hidT h H).objs.size = h.objs.size := PySem.W.hideAll_size _ _
theorem hidT_get {h : Heap} {H : Hp} {b : Addr} {o : Obj} (e : h.get? b = some o) (n : H b = none) : (hidT h H).get? b = some o :=
  PySem.W.hideAll_get _ e fun hm => by
    have q : (H b).isSome = true := (List.mem_filter.mp hm).2
    rw [n] at q; simp at q
theorem of_hidT {h : Heap} {H : Hp} {b : Addr} {o : Obj} (e : (hidT h H).get? b = some o) : h.get? b = some o ∧ H b = none := by
  have e' : h.get? b = some o := PySem.W.of_hideAll (trk h H) e
  refine ⟨e', ?_⟩
  cases q : H b with
  | none => rfl
  | some x =>
    have hm : b ∈ trk h H := List.mem_filter.mpr ⟨List.mem_range.mpr (Heap.lt_size e'), by simp [q]⟩
    have z : (hidT h H).get? b = none := PySem.W.hideAll_none (trk h H) hm
    rw [z] at e; cases e
end L2
namespace L2
open PySem PySem.Spec PyProof.Rows
structure Mod (K : PySem.W.Frag) (mg : Str → Option Value) (base : Heap) : Prop where
  kin : K.In base
  glob : base.Ns mainGlobals mg
  blt : ∃ mb, base.Ns builtinsNs mb ∧ ∀ x : Str, x ≠ "__name__" → mb x = bootBuiltins x
  nolimit : base.NoLimit
/-- the context: a def's body (or a comprehension's block) running. base: fixed through the whole law; s₀, H₀: the entry; outer: the frames whose slots others may change (a def's callers); stack: all frames that run;
   ex: iterators that were made ahead of the entry and are walked here (a comprehension's); fn: the names whose cells were made at the entry (a def: all; a comprehension's block: its own); calm: not within an except suite; pn: pins that every state bears; xe: what is wanted of an exception that leaves the code -/
structure Cx where
  prog : Program
  w : World
  K : PySem.W.Frag
  mg : Str → Option Value
  base : Heap
  A : Around
  N : List Str
  s₀ : Shared
  H₀ : Hp
  env : Env
  outer : List Env
  stack : List Env
  ex : List Addr
  fn : Str → Bool
  calm : Bool
  pn : List (Addr × Obj)
  xe : Value → Shared → Prop
def frs (l : List Env) : List Addr := l.filterMap (·.frame)
abbrev Cx.fs (X : Cx) : List Addr := frs X.outer
def Vis (sc : Scope) (x : Str) : Prop := sc.names.lookup x = some .local ∨ sc.names.lookup x = some .cell ∨ sc.names.lookup x = some .free
def Loc (sc : Scope) (x : Str) : Prop := sc.names.lookup x = some .local ∨ sc.names.lookup x = some .cell
def Look (env : Env) (h : Heap) (m : Str → Option Value) (x : Str) (u : Value) : Prop :=
  (env.kindOf x = some .local ∧ m x = some u) ∨ ((env.kindOf x = some .cell ∨ env.kindOf x = some .free) ∧ ∃ c, env.cells.lookup x = some c ∧ h.IsCell c (some u))
def TokB (mg : Str → Option Value) (n : Nat) : Prop := ∀ x v u, mg x = some (.str v u) → u < n ∧ u ≠ 0
theorem TokB.mono {mg : Str → Option Value} {n m : Nat} (h : TokB mg n) (l : n ≤ m) : TokB mg m := fun x v u e => ⟨Nat.lt_of_lt_of_le (h x v u e).1 l, (h x v u e).2⟩
structure Cx.Ok (X : Cx) : Prop where
  mod : Mod X.K X.mg X.base
  kind : X.env.scope.kind = .function
  glob : X.env.globals = mainGlobals
  blt : X.env.builtins = builtinsNs
  above : X.s₀.heap.objs.size ≤ X.env.locals
  inj : ∀ x y c, X.env.cells.lookup x = some c → X.env.cells.lookup y = some c → x = y
  has : ∀ x, (X.env.kindOf x = some .cell ∨ X.env.kindOf x = some .free) → ∃ c, X.env.cells.lookup x = some c
  cab : ∀ x c, X.fn x = true → X.env.cells.lookup x = some c → X.s₀.heap.objs.size ≤ c
  hd : X.calm = true → X.A.handled = none
  frames : X.A.frames = some X.stack
  stk : X.stack = X.outer ∨ (X.stack = X.env :: X.outer ∧ X.env.frame = some X.env.locals)
  exf : ∀ b ∈ X.ex, b ≠ X.env.locals ∧ ∀ x c, X.env.cells.lookup x = some c → c ≠ b
  bs : ∀ b o, X.base.get? b = some o → X.s₀.heap.get? b = some o ∧ X.H₀ b = none
  bsz : X.base.objs.size ≤ X.s₀.heap.objs.size
  noex : ∀ b o, X.base.get? b = some o → b ∉ X.ex
  exfs : ∀ b ∈ X.ex, b ∉ X.fs
  funs : X.s₀.heap.FunFrames X.base X.outer
  frf : ∀ b ∈ X.fs, X.H₀ b = none
  tk : TokB X.mg X.s₀.toks
structure Inv (X : Cx) (pins : List (Addr × Obj)) (σ : List (Option V)) (H : Hp) (s : Shared) : Prop where
  ok : X.Ok
  os : s.os = X.s₀.os
  bare : AllBare s.gens
  base : Un X.fs X.ex X.H₀ H X.s₀.heap s.heap
  loc : ∃ m, s.heap.Ns X.env.locals m ∧ ∀ (i : Nat) (x : Str) (v : V), X.N[i]? = some x → σ[i]? = some (some v) → Vis X.env.scope x → ∃ u, RelV v u ∧ Look X.env s.heap m x u
  cell : ∀ x c, X.env.cells.lookup x = some c → ∃ v, s.heap.IsCell c v
  free : H X.env.locals = none
  freeC : ∀ x c, X.env.cells.lookup x = some c → H c = none
  pin : ∀ p ∈ X.pn ++ pins, s.heap.get? p.1 = some p.2 ∧ H p.1 = none ∧ p.1 ≠ X.env.locals ∧ p.1 ∉ X.fs ∧ ∀ v, p.2.data ≠ .cell v
  hok : HOk X.prog X.w H s.heap
  len : σ.length = X.N.length
  up : X.s₀.toks ≤ s.toks
section
variable {X : Cx} {pins : List (Addr × Obj)} {σ : List (Option V)} {H H' : Hp} {s : Shared} {h' : Heap}
theorem Cx.Ok.nofr (ok : X.Ok) {b : Addr} {o : Obj} (e : X.base.get? b = some o) : b ∉ X.fs := fun hb => by
  have := (ok.funs.mem hb).1
  rw [e] at this; cases this
theorem Inv.tk (I : Inv X pins σ H s) : TokB X.mg s.toks := I.ok.tk.mono I.up
theorem Inv.bs (I : Inv X pins σ H s) : ∀ b o, X.base.get? b = some o → s.heap.get? b = some o ∧ H b = none := fun b o e =>
  ⟨I.base.keep b o (I.ok.bs b o e).1 (I.ok.bs b o e).2 (I.ok.nofr e) (I.ok.noex b o e), I.base.free b o (I.ok.bs b o e).1 (I.ok.bs b o e).2 (I.ok.noex b o e)⟩
theorem Inv.bk (I : Inv X pins σ H s) : ∀ b o, X.base.get? b = some o → s.heap.get? b = some o := fun b o e => (I.bs b o e).1
theorem Inv.mod (I : Inv X pins σ H s) : Mod X.K X.mg X.base := I.ok.mod
theorem Inv.kIn (I : Inv X pins σ H s) : X.K.In s.heap := I.ok.mod.kin.keeps I.bk
theorem Inv.lt (I : Inv X pins σ H s) : X.env.locals < s.heap.objs.size := let ⟨_, hn, _⟩ := I.loc; hn.lt
theorem Inv.sz (I : Inv X pins σ H s) : X.s₀.heap.objs.size ≤ s.heap.objs.size := Nat.le_trans I.ok.above (Nat.le_of_lt I.lt)
theorem Inv.nofs (I : Inv X pins σ H s) {a : Addr} (h : s.heap.objs.size ≤ a) : a ∉ X.fs := fun hb => by
  obtain ⟨_, o, ho, _⟩ := I.ok.funs.mem hb
  exact absurd (Nat.lt_of_lt_of_le (Heap.lt_size ho) (Nat.le_trans I.sz h)) (Nat.lt_irrefl _)
theorem Inv.cne (I : Inv X pins σ H s) : ∀ x c, X.env.cells.lookup x = some c → c ≠ X.env.locals := fun x c e z => by
  obtain ⟨v, o, ho, hd⟩ := I.cell x c e
  obtain ⟨m, ⟨o', es, ep, ho', hd', _⟩, _⟩ := I.loc
  rw [z, ho'] at ho; cases ho; rw [hd'] at hd; cases hd
theorem Inv.funs (I : Inv X pins σ H s) : s.heap.FunFrames X.base X.outer := by
  have all : ∀ (l : List Env), (∀ b ∈ frs l, b ∈ X.fs) → X.s₀.heap.FunFrames X.base l → s.heap.FunFrames X.base l := by
    intro l
    induction l with
    | nil => intro _ _; trivial
    | cons env r ih =>
      intro hs hl
      obtain ⟨hk, ⟨L, o, hf, hn, ho, hd⟩, hr⟩ := hl
      have hL : L ∈ X.fs := hs L (by unfold frs; rw [List.filterMap_cons, hf]; exact List.mem_cons_self)
      obtain ⟨sl, e⟩ := I.base.slot L o ho (I.ok.frf L hL) hL fun z => I.ok.exfs L z hL
      exact ⟨hk, ⟨L, _, hf, hn, e, hd⟩, ih (fun b hb => hs b (by unfold frs; rw [List.filterMap_cons, hf]; exact List.mem_cons_of_mem _ hb)) hr⟩
  exact all X.outer (fun _ hb => hb) I.ok.funs
theorem Inv.stack (I : Inv X pins σ H s) : s.heap.FunFrames X.base X.stack := by
  rcases I.ok.stk with e | ⟨e, hf⟩
  · rw [e]; exact I.funs
  · rw [e]
    obtain ⟨m, hn, _⟩ := I.loc
    refine .cons (by rw [I.ok.kind]; decide) hf hn ?_ I.funs
    exact Heap.get?_none_of_le (Nat.le_trans I.ok.bsz I.ok.above)
theorem Inv.stkSub (I : Inv X pins σ H s) : ∀ b ∈ frs X.stack, b ∈ X.env.locals :: X.fs := fun b hb => by
  rcases I.ok.stk with e | ⟨e, hf⟩
  · rw [e] at hb; exact List.mem_cons_of_mem _ hb
  · rw [e] at hb
    unfold frs at hb
    rw [List.filterMap_cons, hf] at hb
    exact hb
theorem Inv.stkFree (I : Inv X pins σ H s) : ∀ b ∈ frs X.stack, H b = none := fun b hb => by
  rcases List.mem_cons.mp (I.stkSub b hb) with e | hb
  · rw [e]; exact I.free
  · obtain ⟨_, o, ho, _⟩ := I.ok.funs.mem hb
    exact I.base.free b o ho (I.ok.frf b hb) fun z => I.ok.exfs b z hb
theorem Inv.step {g' : Array GenState} {t' : Nat} {d' : Drawn} {ch : List Addr} (I : Inv X pins σ H s)
    (hch : ∀ b ∈ ch, (b ∈ X.ex ∨ X.s₀.heap.objs.size ≤ b) ∧ b ≠ X.env.locals ∧ (∀ x c, X.env.cells.lookup x = some c → c ≠ b) ∧ ∀ p ∈ X.pn ++ pins, p.1 ≠ b)
    (keep : ∀ b o, b ≠ X.env.locals → b ∉ X.fs → b ∉ ch → s.heap.get? b = some o → H b = none → h'.get? b = some o)
    (slot : ∀ b o, b ≠ X.env.locals → b ∈ X.fs → b ∉ ch → s.heap.get? b = some o → H b = none → ∃ sl, h'.get? b = some { o with slots := sl }) (free : ∀ b o, b ∉ ch → s.heap.get? b = some o → H b = none → H' b = none)
    (there : ∀ b o, b ∉ ch → s.heap.get? b = some o → ∃ o', h'.get? b = some o')
    (tups : ∀ b xs, H b = some (.tup xs) → H' b = some (.tup xs)) (frzs : ∀ b o u, H b = some (.frz o u) → H' b = some (.frz o u)) (tbls : ∀ b ps, H b = some (.tbl ps) → ∃ more, H' b = some (.tbl (ps ++ more)))
    (ns : ∀ m, s.heap.Ns X.env.locals m → h'.Ns X.env.locals m) (hok : HOk X.prog X.w H' h') (hg : AllBare g') (ht : X.s₀.toks ≤ t') :
    Inv X pins σ H' { s with heap := h', gens := g', drawn := d', toks := t' } := by
  have neL : ∀ b o, X.s₀.heap.get? b = some o → b ≠ X.env.locals := fun b o e => Nat.ne_of_lt (Nat.lt_of_lt_of_le (Heap.lt_size e) I.ok.above)
  have neC : ∀ b o, X.s₀.heap.get? b = some o → b ∉ X.ex → b ∉ ch := fun b o e hx hb => by
    rcases (hch b hb).1 with z | z
    · exact hx z
    · exact absurd (Nat.lt_of_lt_of_le (Heap.lt_size e) z) (Nat.lt_irrefl _)
  have cellK : ∀ x c, X.env.cells.lookup x = some c → ∀ v, s.heap.IsCell c v → h'.IsCell c v := fun x c e v ⟨o, ho, hd⟩ => by
    have nch : c ∉ ch := fun z => (hch c z).2.2.1 x c e rfl
    by_cases hc : c ∈ X.fs
    · obtain ⟨sl, q⟩ := slot c o (I.cne x c e) hc nch ho (I.freeC x c e)
      exact ⟨_, q, hd⟩
    · exact ⟨o, keep c o (I.cne x c e) hc nch ho (I.freeC x c e), hd⟩
  refine ⟨I.ok, I.os, hg, ⟨fun b o e n hb hx => ?_, fun b o e n hb hx => ?_, fun b o e n hx => ?_, fun b o e hx => ?_, fun b xs e => tups b xs (I.base.tups b xs e), fun b o xs e => frzs b o xs (I.base.frzs b o xs e), fun b ps e => ?_⟩, ?_, fun x c e => ?_, ?_, fun x c e => ?_, fun p hp => ?_, hok, I.len, ht⟩
  · exact keep b o (neL b o e) hb (neC b o e hx) (I.base.keep b o e n hb hx) (I.base.free b o e n hx)
  · obtain ⟨sl, e1⟩ := I.base.slot b o e n hb hx
    obtain ⟨sl', e2⟩ := slot b _ (neL b o e) hb (neC b o e hx) e1 (I.base.free b o e n hx)
    exact ⟨sl', e2⟩
  · obtain ⟨o', e1⟩ := I.base.there b o e hx
    exact free b o' (neC b o e hx) e1 (I.base.free b o e n hx)
  · obtain ⟨o', e1⟩ := I.base.there b o e hx
    exact there b o' (neC b o e hx) e1
  · obtain ⟨m1, e1⟩ := I.base.tbls b ps e
    obtain ⟨m2, e2⟩ := tbls b _ e1
    exact ⟨m1 ++ m2, by rw [e2, Array.append_assoc]⟩
  · obtain ⟨m, hn, hl⟩ := I.loc
    refine ⟨m, ns m hn, fun i x v e1 e2 e3 => ?_⟩
    obtain ⟨u, r, l⟩ := hl i x v e1 e2 e3
    refine ⟨u, r, ?_⟩
    rcases l with l | ⟨k, c, e, z⟩
    · exact .inl l
    · exact .inr ⟨k, c, e, cellK x c e _ z⟩
  · obtain ⟨v, z⟩ := I.cell x c e
    exact ⟨v, cellK x c e v z⟩
  · obtain ⟨m, ⟨o, _, _, ho, _⟩, _⟩ := I.loc
    exact free _ o (fun z => (hch _ z).2.1 rfl) ho I.free
  · obtain ⟨v, o, ho, hd⟩ := I.cell x c e
    exact free c o (fun z => (hch c z).2.2.1 x c e rfl) ho (I.freeC x c e)
  · obtain ⟨e, n, ne, nf, d⟩ := I.pin p hp
    have nch : p.1 ∉ ch := fun z => (hch p.1 z).2.2.2 p hp rfl
    exact ⟨keep p.1 p.2 ne nf nch e n, free p.1 p.2 nch e n, ne, nf, d⟩
theorem Inv.un {t' : Nat} (I : Inv X pins σ H s) (u : Un X.fs [] H H' s.heap h') (hok : HOk X.prog X.w H' h') (ht : s.toks ≤ t' := by first | exact Nat.le_refl _ | exact Nat.le_succ _ | assumption | omega) : Inv X pins σ H' { s with heap := h', toks := t' } := by
  obtain ⟨m, ⟨o, es, ep, ho, r⟩, _⟩ := id I.loc
  obtain ⟨sl, hL⟩ := u.any ho I.free (by simp)
  exact I.step (g' := s.gens) (d' := s.drawn) (ch := []) (fun _ z => nomatch z) (fun b o _ hb _ e n => u.keep b o e n hb (by simp)) (fun b o _ hb _ e n => u.slot b o e n hb (by simp)) (fun b o _ e n => u.free b o e n (by simp)) (fun b o _ e => u.there b o e (by simp)) u.tups u.frzs u.tbls (fun m' hm => by
    obtain ⟨o', es', ep', ho', r'⟩ := hm
    rw [ho] at ho'; cases ho'
    exact ⟨_, es', ep', hL, r'⟩) hok I.bare (Nat.le_trans I.up ht)
theorem Inv.call {g' : Array GenState} {t' : Nat} {d' : Drawn} {ch : List Addr} (I : Inv X pins σ H s) (u : Un (frs X.stack) ch H H' s.heap h') (hok : HOk X.prog X.w H' h') (hg : AllBare g')
    (hch : ∀ b ∈ ch, (b ∈ X.ex ∨ X.s₀.heap.objs.size ≤ b) ∧ b ≠ X.env.locals ∧ (∀ x c, X.env.cells.lookup x = some c → c ≠ b) ∧ ∀ p ∈ X.pn ++ pins, p.1 ≠ b) (ht : X.s₀.toks ≤ t') :
    Inv X pins σ H' { s with heap := h', gens := g', drawn := d', toks := t' } := by
  obtain ⟨m, ⟨o, es, ep, ho, r⟩, _⟩ := id I.loc
  obtain ⟨sl, hL⟩ := u.any ho I.free fun z => (hch _ z).2.1 rfl
  exact I.step (ch := ch) hch (fun b o hL hb hc e n => u.keep b o e n (fun z => (List.mem_cons.mp (I.stkSub b z)).elim hL hb) hc) (fun b o _ _ hc e n => u.any e n hc) (fun b o hc e n => u.free b o e n hc) (fun b o hc e => u.there b o e hc) u.tups u.frzs u.tbls (fun m' hm => by
    obtain ⟨o', es', ep', ho', r'⟩ := hm
    rw [ho] at ho'; cases ho'
    exact ⟨_, es', ep', hL, r'⟩) hok hg ht
theorem Inv.turned {t' : Nat} {it : Addr} (I : Inv X pins σ H s) (k : ∀ b o, b ≠ it → s.heap.get? b = some o → h'.get? b = some o) (hn : H it = none) (hL : it ≠ X.env.locals)
    (h1 : it ∈ X.ex ∨ X.s₀.heap.objs.size ≤ it) (h2 : ∀ x c, X.env.cells.lookup x = some c → c ≠ it) (h3 : ∀ p ∈ X.pn ++ pins, p.1 ≠ it) (ht : s.toks ≤ t' := by first | exact Nat.le_refl _ | exact Nat.le_succ _ | assumption | omega) : Inv X pins σ H { s with heap := h', toks := t' } := by
  have nit : ∀ b u, H b = some u → b ≠ it := fun b u e z => by rw [z, hn] at e; cases e
  refine I.step (g' := s.gens) (d' := s.drawn) (ch := [it]) (fun b hb => ?_) (fun b o _ _ hc e _ => k b o (fun z => hc (by simp [z])) e) (fun b o _ _ hc e _ => ⟨o.slots, k b o (fun z => hc (by simp [z])) e⟩) (fun _ _ _ _ n => n)
    (fun b o hc e => ⟨o, k b o (fun z => hc (by simp [z])) e⟩) (fun _ _ e => e) (fun _ _ _ e => e) (fun b ps e => ⟨#[], by rw [e]; simp⟩) (fun m hm => ?_) (fun b u e => ?_) I.bare (Nat.le_trans I.up ht)
  · have e : b = it := by simpa using hb
    subst e
    exact ⟨h1, hL, h2, h3⟩
  · obtain ⟨o, es, ep, ho, r⟩ := hm
    exact ⟨o, es, ep, k _ o (Ne.symm hL) ho, r⟩
  · refine (I.hok b u e).stay (fun c v hc q => k c v ?_ q) (fun _ q => q) fun _ _ q => q
    rcases hc with z | z
    · rw [z]; exact nit b u e
    · exact nit c _ z
theorem Inv.tok (I : Inv X pins σ H s) (t' : Nat) (ht : s.toks ≤ t' := by first | exact Nat.le_refl _ | exact Nat.le_succ _ | assumption | omega) : Inv X pins σ H { s with toks := t' } := I.un (h' := s.heap) (t' := t') Un.refl I.hok ht
theorem Inv.kept {t' : Nat} (I : Inv X pins σ H s) (k : ∀ b u, s.heap.get? b = some u → h'.get? b = some u) (ht : s.toks ≤ t' := by first | exact Nat.le_refl _ | exact Nat.le_succ _ | assumption | omega) : Inv X pins σ H { s with heap := h', toks := t' } := I.un (Un.kept k) (I.hok.kept k) ht
theorem Inv.laid {a : Addr} {o : HO} {t' : Nat} (I : Inv X pins σ H s) (k : ∀ b u, s.heap.get? b = some u → h'.get? b = some u) (hp : s.heap.objs.size ≤ a) (new : ObjOk X.prog X.w (upd H a o) h' a o) (ht : s.toks ≤ t' := by first | exact Nat.le_refl _ | exact Nat.le_succ _ | assumption | omega) :
    Inv X pins σ (upd H a o) { s with heap := h', toks := t' } := I.un (Un.laid k hp (I.hok.fresh hp)) (I.hok.laid k hp new) ht
theorem Inv.write {x e : Addr} {o : HO} {t' : Nat} (I : Inv X pins σ H s) (mu : Mut (H x)) (he : e = x ∨ H e = some (.own x)) (k : ∀ b u, b ≠ e → s.heap.get? b = some u → h'.get? b = some u) (heo : ∃ u, h'.get? e = some u)
    (new : ObjOk X.prog X.w (upd H x o) h' x o) (ht : s.toks ≤ t' := by first | exact Nat.le_refl _ | exact Nat.le_succ _ | assumption | omega) : Inv X pins σ (upd H x o) { s with heap := h', toks := t' } := I.un (Un.write mu he k heo) (I.hok.write mu he k heo new) ht
theorem Inv.weak {σ' : List (Option V)} (I : Inv X pins σ H s) (hl : σ'.length = σ.length) (w : ∀ (i : Nat) v, σ'[i]? = some (some v) → σ[i]? = some (some v)) : Inv X pins σ' H s :=
  ⟨I.ok, I.os, I.bare, I.base, let ⟨m, hn, hl'⟩ := I.loc; ⟨m, hn, fun i x v e1 e2 e3 => hl' i x v e1 (w i v e2) e3⟩, I.cell, I.free, I.freeC, I.pin, I.hok, hl.trans I.len, I.up⟩
theorem Inv.pins_of {pins' : List (Addr × Obj)} (I : Inv X pins σ H s) (h : ∀ p ∈ pins', s.heap.get? p.1 = some p.2 ∧ H p.1 = none ∧ p.1 ≠ X.env.locals ∧ p.1 ∉ X.fs ∧ ∀ v, p.2.data ≠ .cell v) : Inv X pins' σ H s :=
  ⟨I.ok, I.os, I.bare, I.base, I.loc, I.cell, I.free, I.freeC, fun p hp => (List.mem_append.mp hp).elim (fun z => I.pin p (List.mem_append_left _ z)) (h p), I.hok, I.len, I.up⟩
theorem nodup_ix {N : List Str} (hN : N.Nodup) {i j : Nat} {x : Str} (a : N[i]? = some x) (b : N[j]? = some x) : i = j := by
  obtain ⟨h1, e1⟩ := List.getElem?_eq_some_iff.mp a
  obtain ⟨h2, e2⟩ := List.getElem?_eq_some_iff.mp b
  exact (List.getElem_inj hN).mp (e1.trans e2.symm)
theorem store_ok2 {M : Model} {A : Around} {E : Value → Shared → Prop} {i : Nat} {x : Str} {v : V} {u : Value} {Q : Unit → Shared → Prop} (I : Inv X pins σ H s) (hN : X.N.Nodup) (hi : X.N[i]? = some x) (hx : Loc X.env.scope x) (r : RelV v u)
    (h : ∀ s', Inv X pins (σ.set i (some v)) H s' → (∃ a, Heap.SameBut a s.heap s'.heap ∧ (a = X.env.locals ∨ X.env.cells.lookup x = some a)) → Q () s') (hf : X.fn x = true ∨ X.env.scope.names.lookup x = some .local := by first | exact .inl rfl | exact .inr rfl | assumption) : wpAny M A (storeName X.env x u) Q E s := by
  obtain ⟨m, hn, hl⟩ := id I.loc
  have hcls : (X.env.scope.kind == .class || (X.env.scope.kind == .module && X.env.locals != X.env.globals)) = false := by rw [I.ok.kind]; rfl
  have hiσ : i < σ.length := by rw [I.len]; exact (List.getElem?_eq_some_iff.mp hi).1
  have cne := I.cne
  have tracked : ∀ {a : Addr} {h' : Heap}, (∃ o, s.heap.get? a = some o ∧ H a = none) → Heap.SameBut a s.heap h' → HOk X.prog X.w H h' := fun {a h'} ha hs b ob e => by
    obtain ⟨_, _, hfree⟩ := ha
    refine (I.hok b ob e).stay (fun c w' hc q => (hs.2 c ?_).trans q) (fun _ q => q) fun _ _ q => q
    rintro rfl
    rcases hc with rfl | hc
    · rw [hfree] at e; cases e
    · rw [hfree] at hc; cases hc
  rcases hx with hk | hk
  · refine wpAny_storeName_local hk hn (fun h' hn' hs => ?_) hcls
    obtain ⟨oL, _, _, hoL, _⟩ := id hn
    refine h _ ⟨I.ok, I.os, I.bare, ⟨fun b o e n hb hx => ?_, fun b o e n hb hx => ?_, I.base.free, fun b o e hx => ?_, I.base.tups, I.base.frzs, I.base.tbls⟩, ⟨_, hn', fun j y v' e1 e2 e3 => ?_⟩, fun y c e => ?_, I.free, I.freeC, fun p hp => ?_, tracked ⟨oL, hoL, I.free⟩ hs, by simpa using I.len, Nat.le_trans I.up (by first | exact Nat.le_refl _ | exact Nat.le_succ _ | exact Nat.le_add_right _ _)⟩ ⟨_, hs, .inl rfl⟩
    · exact (hs.2 b (Nat.ne_of_lt (Nat.lt_of_lt_of_le (Heap.lt_size e) I.ok.above))).trans (I.base.keep b o e n hb hx)
    · obtain ⟨sl, e1⟩ := I.base.slot b o e n hb hx
      exact ⟨sl, (hs.2 b (Nat.ne_of_lt (Nat.lt_of_lt_of_le (Heap.lt_size e) I.ok.above))).trans e1⟩
    · obtain ⟨o', e1⟩ := I.base.there b o e hx
      exact ⟨o', (hs.2 b (Nat.ne_of_lt (Nat.lt_of_lt_of_le (Heap.lt_size e) I.ok.above))).trans e1⟩
    · by_cases hj : j = i
      · subst hj
        rw [hi] at e1; cases e1
        rw [List.getElem?_set_self hiσ] at e2
        cases e2
        exact ⟨u, r, .inl ⟨hk, by simp⟩⟩
      · rw [List.getElem?_set_ne (Ne.symm hj)] at e2
        obtain ⟨u', r', q⟩ := hl j y v' e1 e2 e3
        refine ⟨u', r', ?_⟩
        rcases q with ⟨k, e⟩ | ⟨k, c, e, z⟩
        · refine .inl ⟨k, ?_⟩
          have : y ≠ x := fun e => hj (nodup_ix hN e1 (e ▸ hi))
          simp [this, e]
        · exact .inr ⟨k, c, e, z.sameBut hs (cne y c e)⟩
    · obtain ⟨w', z⟩ := I.cell y c e
      exact ⟨w', z.sameBut hs (cne y c e)⟩
    · obtain ⟨e, n, ne, nf, d⟩ := I.pin p hp
      exact ⟨(hs.2 p.1 ne).trans e, n, ne, nf, d⟩
  · have hfn : X.fn x = true := by
      rcases hf with z | z
      · exact z
      · rw [z] at hk; cases hk
    obtain ⟨c, hc⟩ := I.ok.has x (.inl hk)
    obtain ⟨w', z⟩ := I.cell x c hc
    refine wpAny_storeName_cell I.ok.kind hk hc z (fun h' hc' hs => ?_)
    obtain ⟨oc, hoc, hocd⟩ := id z
    refine h { s with heap := h' } ⟨I.ok, I.os, I.bare, ⟨fun b o e n hb hx => ?_, fun b o e n hb hx => ?_, I.base.free, fun b o e hx => ?_, I.base.tups, I.base.frzs, I.base.tbls⟩, ⟨m, hn.sameBut hs (Ne.symm (cne x c hc)), fun j y v' e1 e2 e3 => ?_⟩, fun y c' e => ?_, I.free, I.freeC, fun p hp => ?_, tracked ⟨oc, hoc, I.freeC x c hc⟩ hs, by simpa using I.len, I.up⟩ ⟨c, hs, .inr hc⟩
    · exact (hs.2 b (Nat.ne_of_lt (Nat.lt_of_lt_of_le (Heap.lt_size e) (I.ok.cab x c hfn hc)))).trans (I.base.keep b o e n hb hx)
    · obtain ⟨sl, e1⟩ := I.base.slot b o e n hb hx
      exact ⟨sl, (hs.2 b (Nat.ne_of_lt (Nat.lt_of_lt_of_le (Heap.lt_size e) (I.ok.cab x c hfn hc)))).trans e1⟩
    · obtain ⟨o', e1⟩ := I.base.there b o e hx
      exact ⟨o', (hs.2 b (Nat.ne_of_lt (Nat.lt_of_lt_of_le (Heap.lt_size e) (I.ok.cab x c hfn hc)))).trans e1⟩
    · by_cases hj : j = i
      · subst hj
        rw [hi] at e1; cases e1
        rw [List.getElem?_set_self hiσ] at e2
        cases e2
        exact ⟨u, r, .inr ⟨.inl hk, c, hc, hc'⟩⟩
      · rw [List.getElem?_set_ne (Ne.symm hj)] at e2
        obtain ⟨u', r', q⟩ := hl j y v' e1 e2 e3
        refine ⟨u', r', ?_⟩
        rcases q with q | ⟨k, c', e, z'⟩
        · exact .inl q
        · refine .inr ⟨k, c', e, z'.sameBut hs ?_⟩
          rintro rfl
          exact hj (nodup_ix hN e1 (I.ok.inj _ _ _ e hc ▸ hi))
    · by_cases hcc : c' = c
      · subst hcc; exact ⟨_, hc'⟩
      · obtain ⟨w2, z2⟩ := I.cell y c' e
        exact ⟨w2, z2.sameBut hs hcc⟩
    · obtain ⟨e, n, ne, nf, d⟩ := I.pin p hp
      refine ⟨(hs.2 p.1 ?_).trans e, n, ne, nf, d⟩
      intro q
      rw [q, hoc] at e
      have q' : oc = p.2 := Option.some.inj e
      exact d w' (by rw [← q']; exact hocd)
theorem store_ok {M : Model} {A : Around} {E : Value → Shared → Prop} {i : Nat} {x : Str} {v : V} {u : Value} {Q : Unit → Shared → Prop} (I : Inv X pins σ H s) (hN : X.N.Nodup) (hi : X.N[i]? = some x) (hx : Loc X.env.scope x) (r : RelV v u)
    (h : ∀ s', Inv X pins (σ.set i (some v)) H s' → Q () s') (hf : X.fn x = true ∨ X.env.scope.names.lookup x = some .local := by first | exact .inl rfl | exact .inr rfl | assumption) : wpAny M A (storeName X.env x u) Q E s :=
  store_ok2 I hN hi hx r (fun s' I' _ => h s' I') hf
theorem Inv.call' {s' : Shared} {ch : List Addr} (I : Inv X pins σ H s) (ho : s'.os = s.os) (u : Un (frs X.stack) ch H H' s.heap s'.heap) (hok : HOk X.prog X.w H' s'.heap) (hg : AllBare s'.gens)
    (hch : ∀ b ∈ ch, (b ∈ X.ex ∨ X.s₀.heap.objs.size ≤ b) ∧ b ≠ X.env.locals ∧ (∀ x c, X.env.cells.lookup x = some c → c ≠ b) ∧ ∀ p ∈ X.pn ++ pins, p.1 ≠ b) (ht : X.s₀.toks ≤ s'.toks) : Inv X pins σ H' s' := by
  obtain ⟨h', g', d', t', o'⟩ := s'
  have e : o' = s.os := ho
  subst e
  exact I.call (g' := g') (t' := t') (d' := d') u hok hg hch ht
end
/-! ### the judgements -/
abbrev XK := Value → Option Addr → Hp → Prop
abbrev St := List (Option V)
abbrev VK := V → Hp → Prop
abbrev TE := St → Hp → VK → Prop
abbrev TT := St → Hp → (Bool → Hp → Prop) → Prop
abbrev TA := St → Hp → (List V → Hp → Prop) → Prop
structure Ends where
  nx : St → Hp → Prop
  rt : VK
  bk : St → Hp → Prop := fun _ _ => False
  ct : St → Hp → Prop := fun _ _ => False
abbrev TS := Ends → St → Hp → Prop
def EP (X : Cx) (pins : List (Addr × Obj)) (σ : St) (Q : VK) (u : Value) (s' : Shared) : Prop := ∃ v H', Inv X pins σ H' s' ∧ RelV v u ∧ Q v H'
def TP (X : Cx) (pins : List (Addr × Obj)) (σ : St) (Q : Bool → Hp → Prop) (b : Bool) (s' : Shared) : Prop := ∃ H', Inv X pins σ H' s' ∧ Q b H'
def AP (X : Cx) (pins : List (Addr × Obj)) (σ : St) (Q : List V → Hp → Prop) (us : List Value) (s' : Shared) : Prop := ∃ vs H', Inv X pins σ H' s' ∧ Vals vs us ∧ Q vs H'
def SP (X : Cx) (pins : List (Addr × Obj)) (D : Ends) (f : Flow) (s' : Shared) : Prop :=
  match f with
  | .next => ∃ σ' H', Inv X pins σ' H' s' ∧ D.nx σ' H'
  | .brk => ∃ σ' H', Inv X pins σ' H' s' ∧ D.bk σ' H'
  | .cont => ∃ σ' H', Inv X pins σ' H' s' ∧ D.ct σ' H'
  | .ret u => ∃ v σ' H', Inv X pins σ' H' s' ∧ RelV v u ∧ D.rt v H'
def PE (X : Cx) (e : Expr) (t : TE) : Prop :=
  ∀ (pins : List (Addr × Obj)) (s : Shared) (σ : St) (H : Hp) (Q : VK), Inv X pins σ H s → t σ H Q → wpAny (model X.prog X.w) X.A (eval e X.env) (EP X pins σ Q) X.xe s
def PT (X : Cx) (e : Expr) (t : TT) : Prop :=
  ∀ (pins : List (Addr × Obj)) (s : Shared) (σ : St) (H : Hp) (Q : Bool → Hp → Prop), Inv X pins σ H s → t σ H Q → wpAny (model X.prog X.w) X.A (isTrue e X.env (eval e X.env)) (TP X pins σ Q) X.xe s
def PW (X : Cx) (e : Expr) (t : TT) : Prop :=
  ∀ (whole : Sem Value) (pins : List (Addr × Obj)) (s : Shared) (σ : St) (H : Hp) (Q : Bool → Hp → Prop), Inv X pins σ H s → t σ H Q → wpAny (model X.prog X.w) X.A (isTrue e X.env whole) (TP X pins σ Q) X.xe s
theorem PW.pt {X : Cx} {e : Expr} {t : TT} (h : PW X e t) : PT X e t := h _
def PA (X : Cx) (es : List Expr) (t : TA) : Prop :=
  ∀ (pos : Pos) (pins : List (Addr × Obj)) (s : Shared) (σ : St) (H : Hp) (Q : List V → Hp → Prop), Inv X pins σ H s → t σ H Q → wpAny (model X.prog X.w) X.A (spliced (backTo pos (starEach es X.env))) (AP X pins σ Q) X.xe s
def PS (X : Cx) (st : Stmt) (t : TS) : Prop :=
  ∀ (pins : List (Addr × Obj)) (s : Shared) (σ : St) (H : Hp) (D : Ends), Inv X pins σ H s → t D σ H → wpAny (model X.prog X.w) X.A (exec st X.env) (SP X pins D) X.xe s
def PSs (X : Cx) (st : List Stmt) (t : TS) : Prop :=
  ∀ (pins : List (Addr × Obj)) (s : Shared) (σ : St) (H : Hp) (D : Ends), Inv X pins σ H s → t D σ H → wpAny (model X.prog X.w) X.A (execs st X.env) (SP X pins D) X.xe s
theorem thn {α : Type} {t : Sem α} {Q Q' : α → Shared → Prop} {M : Model} {A : Around} {E : Value → Shared → Prop} {s : Shared} (h : wpAny M A t Q E s) (hQ : ∀ a s, Q a s → Q' a s) : wpAny M A t Q' E s := wpAny_mono h hQ fun _ _ x => x
end L2
namespace L2
open PySem PySem.Spec PyProof.Rows
section
variable {X : Cx}
/-! ### names and constants -/
def tVar (i : Nat) : TE := fun σ H Q => ∃ v, σ[i]? = some (some v) ∧ Q v H
def tC (v : V) : TE := fun _ H Q => Q v H
theorem pe_var {i : Nat} {x : Str} {pos : Pos} (hN : X.N[i]? = some x) (hv : Vis X.env.scope x) (hd : (x == ("__debug__" : Str)) = false := by decide) (hcd : (x == ("__classdict__" : Str)) = false := by decide) : PE X (.Name x pos) (tVar i) := by
  intro pins s σ H Q I h
  obtain ⟨v, e, h⟩ := h
  obtain ⟨m, hn, hl⟩ := I.loc
  obtain ⟨u, r, l⟩ := hl i x v hN e hv
  have fin : EP X pins σ Q u s := ⟨v, H, I, r, h⟩
  rcases l with ⟨hk, hm⟩ | ⟨hk, c, hc, hcell⟩
  · exact wpAny_Name (wpAny_loadName_local I.ok.kind hk hn hm fin) hd
  · rcases hk with hk | hk
    · exact wpAny_Name (wpAny_loadName_cell I.ok.kind hk hc hcell fin) hd
    · exact wpAny_Name (wpAny_loadName_free I.ok.kind hk hc hcell fin hcd) hd
theorem pe_int {i j pos} : PE X (.Constant (.int i) j pos) (tC (.int i)) := fun _ _ _ H _ I h => wpAny_Constant_int ⟨.int i, H, I.tok _, ⟨_, rfl⟩, h⟩
theorem pe_bl {b j pos} : PE X (.Constant (.bool b) j pos) (tC (.bl b)) := fun _ _ _ H _ I h => Constant_bool ⟨.bl b, H, I, rfl, h⟩
theorem pe_non {j pos} : PE X (.Constant .none j pos) (tC .non) := fun _ _ _ H _ I h => Constant_none ⟨.non, H, I, rfl, h⟩
theorem pe_str {x j pos} : PE X (.Constant (.str x) j pos) (tC (.str x)) := fun _ _ _ H _ I h => Calls.Constant_str ⟨.str x, H, I.tok _, ⟨_, rfl⟩, h⟩
def Gl (X : Cx) (x : Str) : Prop := X.env.kindOf x = some .globalImplicit
theorem ld_glob {E : Value → Shared → Prop} {pins : List (Addr × Obj)} {s : Shared} {σ : St} {H : Hp} {x : Str} {u : Value} {pos : Pos} {Q : Value → Shared → Prop} (I : Inv X pins σ H s) (hg : Gl X x) (hm : X.mg x = some u) (h : Q u s)
    (hd : (x == ("__debug__" : Str)) = false := by decide) : wpAny (model X.prog X.w) X.A (eval (.Name x pos) X.env) Q E s :=
  Calls.Name_function_global I.ok.kind hg (Calls.loadGlobal_global (by rw [I.ok.glob]; exact I.mod.glob.keeps I.bk) hm h) hd
theorem ld_blt {E : Value → Shared → Prop} {pins : List (Addr × Obj)} {s : Shared} {σ : St} {H : Hp} {x : Str} {u : Value} {pos : Pos} {Q : Value → Shared → Prop} (I : Inv X pins σ H s) (hg : Gl X x) (hm : X.mg x = none) (hv : bootBuiltins x = some u) (h : Q u s)
    (hn : x ≠ "__name__" := by decide) (hd : (x == ("__debug__" : Str)) = false := by decide) : wpAny (model X.prog X.w) X.A (eval (.Name x pos) X.env) Q E s := by
  obtain ⟨mb, h1, h2⟩ := I.mod.blt
  exact Calls.Name_function_global I.ok.kind hg (Calls.loadGlobal_builtin (by rw [I.ok.glob]; exact I.mod.glob.keeps I.bk) hm (by rw [I.ok.blt]; exact h1.keeps I.bk) ((h2 x hn).trans hv) h) hd
theorem pe_glob {x : Str} {v : V} {u : Value} {pos : Pos} (hg : Gl X x) (hm : X.mg x = some u) (r : RelV v u) (hd : (x == ("__debug__" : Str)) = false := by decide) : PE X (.Name x pos) (tC v) :=
  fun _ _ _ H _ I h => ld_glob I hg hm ⟨v, H, I, r, h⟩ hd
theorem pe_bltn {x : Str} {v : V} {u : Value} {pos : Pos} (hg : Gl X x) (hm : X.mg x = none) (hv : bootBuiltins x = some u) (r : RelV v u) (hn : x ≠ "__name__" := by decide) (hd : (x == ("__debug__" : Str)) = false := by decide) : PE X (.Name x pos) (tC v) :=
  fun _ _ _ H _ I h => ld_blt I hg hm hv ⟨v, H, I, r, h⟩ hn hd
variable {a b : Expr} {ta tb : TE} {pos : Pos}
def tB (t : TE) : TT := fun σ H Q => t σ H fun x H1 => ∃ c, x = .bl c ∧ Q c H1
theorem pt_val {e : Expr} {t : TE} (h : PE X e t) (he : ∀ whole, isTrue e X.env whole = (do let v ← whole; standAt e.pos; holding [v] (truthy v)) := by intro _; rfl) : PT X e (tB t) := by
  intro pins s σ H Q I hw
  refine isTrue_plain (thn (h pins s σ H _ I hw) fun v s1 ⟨x, H1, I1, r1, q1⟩ => ?_) (he _)
  obtain ⟨d, rfl, q⟩ := q1
  cases r1
  exact wpAny_truthy_bool ⟨H1, I1, q⟩
variable {tA tB' : TT} {rest : List Expr}
def tAnd (t u : TT) : TT := fun σ H Q => t σ H fun c H1 => if c = true then u σ H1 Q else Q false H1
def tOr (t u : TT) : TT := fun σ H Q => t σ H fun c H1 => if c = true then Q true H1 else u σ H1 Q
def tNot (t : TT) : TT := fun σ H Q => t σ H fun c H1 => Q (!c) H1
theorem pw_and1 (ha : PT X a tA) : PW X (.BoolOp .And [a] pos) tA := by
  intro wh pins s σ H Q I h
  refine isTrue_and (thn (ha pins s σ H Q I h) fun c s1 e => ?_)
  cases c with
  | true => exact isTrue_and_nil e
  | false => exact e
theorem pw_or1 (ha : PT X a tA) : PW X (.BoolOp .Or [a] pos) tA := by
  intro wh pins s σ H Q I h
  refine isTrue_or (thn (ha pins s σ H Q I h) fun c s1 e => ?_)
  cases c with
  | false => exact isTrue_or_nil e
  | true => exact e
theorem pw_and (ha : PT X a tA) (hb : PW X (.BoolOp .And (b :: rest) pos) tB') : PW X (.BoolOp .And (a :: b :: rest) pos) (tAnd tA tB') := by
  intro wh pins s σ H Q I h
  refine isTrue_and (thn (ha pins s σ H _ I h) fun c s1 ⟨H1, I1, q1⟩ => ?_)
  cases c with
  | true => exact hb wh pins s1 σ H1 Q I1 q1
  | false => exact ⟨H1, I1, q1⟩
theorem pw_or (ha : PT X a tA) (hb : PW X (.BoolOp .Or (b :: rest) pos) tB') : PW X (.BoolOp .Or (a :: b :: rest) pos) (tOr tA tB') := by
  intro wh pins s σ H Q I h
  refine isTrue_or (thn (ha pins s σ H _ I h) fun c s1 ⟨H1, I1, q1⟩ => ?_)
  cases c with
  | true => exact ⟨H1, I1, q1⟩
  | false => exact hb wh pins s1 σ H1 Q I1 q1
theorem pt_not (ha : PT X a tA) : PT X (.UnaryOp .Not a pos) (tNot tA) := by
  intro pins s σ H Q I h
  exact isTrue_not (ha pins s σ H (fun c H1 => Q (!c) H1) I h)
def tAndV (ta tb : TE) : TE := fun σ H Q => ta σ H fun x H1 => ∃ c, x = .bl c ∧ if c = true then tb σ H1 Q else Q (.bl false) H1
def tNotV (ta : TE) : TE := fun σ H Q => ta σ H fun x H1 => ∃ c, x = .bl c ∧ Q (.bl (!c)) H1
theorem pe_one {op} {t : TE} (h : PE X a t) : PE X (.BoolOp op [a] pos) t := fun pins s σ H Q I hw => BoolOp_one (h pins s σ H Q I hw)
theorem pe_and (ha : PE X a ta) (hb : PE X (.BoolOp .And (b :: rest) pos) tb) : PE X (.BoolOp .And (a :: b :: rest) pos) (tAndV ta tb) := by
  intro pins s σ H Q I h
  refine BoolOp_and (thn (ha pins s σ H _ I h) fun v s1 ⟨x, H1, I1, r1, q1⟩ => ?_)
  obtain ⟨c, rfl, q1⟩ := q1
  cases r1
  refine wpAny_truthy_bool ?_
  cases c with
  | true => exact hb pins s1 σ H1 Q I1 q1
  | false => exact ⟨.bl false, H1, I1, rfl, q1⟩
theorem pe_not (ha : PE X a ta) : PE X (.UnaryOp .Not a pos) (tNotV ta) := by
  intro pins s σ H Q I h
  refine UnaryOp_ (thn (ha pins s σ H _ I h) fun v s1 ⟨x, H1, I1, r1, q1⟩ => ?_)
  obtain ⟨c, rfl, q1⟩ := q1
  cases r1
  exact not_of (wpAny_truthy_bool ⟨.bl (!c), H1, I1, rfl, q1⟩)
end
end L2
namespace L2
open PySem PySem.Spec PyProof.Rows
/-! ### a list, a tuple that is read: tracked, frozen, or an object of the module -/
def SqL (K : PySem.W.Frag) (H : Hp) (a : Addr) (xs : List V) : Prop :=
  Rd H a (.lst xs) ∨
    ∃ (o : Obj) (its : Array Value) (n : Nat), K.lookup a = some o ∧ o.cls = .type "list" ∧ o.dict = none ∧ o.data = .seq its n ∧ its.size ≤ sizeLine ∧ Vals xs its.toList
def SqT (K : PySem.W.Frag) (H : Hp) (a : Addr) (xs : List V) : Prop :=
  Rd H a (.tup xs) ∨
    ∃ (o : Obj) (its : Array Value) (n : Nat), K.lookup a = some o ∧ o.cls = .type "tuple" ∧ o.data = .seq its n ∧ its.size ≤ sizeLine ∧ Vals xs its.toList
def absV : Value → Option V
  | .none => some .non
  | .bool b => some (.bl b)
  | .int i _ => some (.int i)
  | .str x _ => some (.str x)
  | .bytes b _ => some (.byt b)
  | .float b _ => some (.flt b)
  | .ref a => some (.ref a)
  | .type n => some (.ty n)
  | _ => none
theorem RelV.abs {x : V} {u : Value} (r : RelV x u) : absV u = some x := by
  cases x with
  | non => cases r; rfl
  | bl _ => cases r; rfl
  | int _ => obtain ⟨t, rfl⟩ := r; rfl
  | str _ => obtain ⟨t, rfl⟩ := r; rfl
  | byt _ => obtain ⟨t, rfl⟩ := r; rfl
  | flt _ => obtain ⟨t, rfl⟩ := r; rfl
  | ref _ => cases r; rfl
  | ty _ => cases r; rfl
theorem RelV.inj {x y : V} {u : Value} (r : RelV x u) (q : RelV y u) : x = y := Option.some.inj (r.abs.symm.trans q.abs)
theorem Vals.inj : ∀ {xs ys : List V} {us : List Value}, Vals xs us → Vals ys us → xs = ys
  | _, _, _, .nil, .nil => rfl
  | _, _, _, .cons r t, .cons r' t' => by rw [r.inj r', Vals.inj t t']
section
variable {X : Cx} {pins : List (Addr × Obj)} {σ : St} {H : Hp} {s : Shared} {a : Addr} {xs ys : List V}
theorem SqL.of {K : PySem.W.Frag} (h : H a = some (.lst xs)) : SqL K H a xs := .inl (.inl h)
theorem SqT.of {K : PySem.W.Frag} (h : H a = some (.tup xs)) : SqT K H a xs := .inl (.inl h)
theorem Inv.list (I : Inv X pins σ H s) (h : SqL X.K H a xs) : ∃ its : List Value, Vals xs its ∧ PlainL s.heap a its.toArray ∧ xs.length ≤ sizeLine := by
  rcases h with h | ⟨o, its, n, hk, hc, hd, hs, hz, r⟩
  · obtain ⟨z, its, n, r, e⟩ := h.ok I.hok
    exact ⟨its, r, ⟨_, n, e, rfl, rfl, rfl⟩, z⟩
  · refine ⟨its.toList, r, ⟨o, n, I.kIn a o hk, hc, hd, by simpa using hs⟩, ?_⟩
    have e := r.length
    simp only [Array.length_toList] at e
    omega
theorem Inv.tuple (I : Inv X pins σ H s) (h : SqT X.K H a xs) : ∃ its : List Value, Vals xs its ∧ IsTup s.heap a its.toArray ∧ xs.length ≤ sizeLine := by
  rcases h with h | ⟨o, its, n, hk, hc, hs, hz, r⟩
  · obtain ⟨z, its, r, p⟩ := h.ok I.hok
    exact ⟨its, r, p, z⟩
  · refine ⟨its.toList, r, ⟨o, I.kIn a o hk, hc, n, by simpa using hs⟩, ?_⟩
    have e := r.length
    simp only [Array.length_toList] at e
    omega
theorem Inv.list_inj (I : Inv X pins σ H s) (h : SqL X.K H a xs) (h' : SqL X.K H a ys) : xs = ys := by
  obtain ⟨its, r, ⟨o, n, e, _, _, d⟩, _⟩ := I.list h
  obtain ⟨its', r', ⟨o', n', e', _, _, d'⟩, _⟩ := I.list h'
  rw [e] at e'; cases e'
  rw [d] at d'
  injection d' with d1 _
  have : its = its' := by simpa using congrArg Array.toList d1
  subst this
  exact r.inj r'
theorem Inv.tuple_inj (I : Inv X pins σ H s) (h : SqT X.K H a xs) (h' : SqT X.K H a ys) : xs = ys := by
  obtain ⟨its, r, ⟨o, e, _, n, d⟩, _⟩ := I.tuple h
  obtain ⟨its', r', ⟨o', e', _, n', d'⟩, _⟩ := I.tuple h'
  rw [e] at e'; cases e'
  rw [d] at d'
  injection d' with d1 _
  have : its = its' := by simpa using congrArg Array.toList d1
  subst this
  exact r.inj r'
end
/-! ### another wish about exceptions -/
abbrev Cx.wish (X : Cx) (E : Value → Shared → Prop) : Cx := { X with xe := E }
abbrev Cx.nox (X : Cx) : Cx := X.wish fun _ _ => False
theorem Cx.Ok.wish {X : Cx} (ok : X.Ok) (E : Value → Shared → Prop) : (X.wish E).Ok :=
  ⟨ok.mod, ok.kind, ok.glob, ok.blt, ok.above, ok.inj, ok.has, ok.cab, ok.hd, ok.frames, ok.stk, ok.exf, ok.bs, ok.bsz, ok.noex, ok.exfs, ok.funs, ok.frf, ok.tk⟩
theorem Cx.Ok.unwish {X : Cx} {E : Value → Shared → Prop} (ok : (X.wish E).Ok) : X.Ok :=
  ⟨ok.mod, ok.kind, ok.glob, ok.blt, ok.above, ok.inj, ok.has, ok.cab, ok.hd, ok.frames, ok.stk, ok.exf, ok.bs, ok.bsz, ok.noex, ok.exfs, ok.funs, ok.frf, ok.tk⟩
section
variable {X : Cx} {pins : List (Addr × Obj)} {σ : St} {H : Hp} {s : Shared} {E : Value → Shared → Prop}
theorem Inv.wish (I : Inv X pins σ H s) (E : Value → Shared → Prop) : Inv (X.wish E) pins σ H s := ⟨I.ok.wish E, I.os, I.bare, I.base, I.loc, I.cell, I.free, I.freeC, I.pin, I.hok, I.len, I.up⟩
theorem Inv.unwish (I : Inv (X.wish E) pins σ H s) : Inv X pins σ H s := ⟨I.ok.unwish, I.os, I.bare, I.base, I.loc, I.cell, I.free, I.freeC, I.pin, I.hok, I.len, I.up⟩
theorem SP.unwish {D : Ends} {f : Flow} {s' : Shared} (h : SP (X.wish E) pins D f s') : SP X pins D f s' := by
  cases f with
  | next => obtain ⟨σ', H', I, q⟩ := h; exact ⟨σ', H', I.unwish, q⟩
  | brk => obtain ⟨σ', H', I, q⟩ := h; exact ⟨σ', H', I.unwish, q⟩
  | cont => obtain ⟨σ', H', I, q⟩ := h; exact ⟨σ', H', I.unwish, q⟩
  | ret u => obtain ⟨v, σ', H', I, r, q⟩ := h; exact ⟨v, σ', H', I.unwish, r, q⟩
theorem PSs.nox {st : List Stmt} {t : TS} (h : PSs X.nox st t) : PSs X st t := fun pins s σ H D I hw =>
  wpAny_mono (h pins s σ H D (I.wish _) hw) (fun _ _ q => q.unwish) fun _ _ z => False.elim z
end
section
variable {X : Cx} {st : Stmt} {rest : List Stmt} {t u : TS} {e : Expr} {te : TE} {pos : Pos}
def tNext : TS := fun D σ H => D.nx σ H
def tSeq (t u : TS) : TS := fun D σ H => t { D with nx := u D } σ H
theorem pss_nil : PSs X [] tNext := fun _ _ σ H _ I h => wpAny_execs_nil ⟨σ, H, I, h⟩
theorem pss_cons (h1 : PS X st t) (h2 : PSs X rest u) : PSs X (st :: rest) (tSeq t u) := by
  intro pins s σ H D I h
  refine wpAny_execs_cons (thn (h1 pins s σ H { D with nx := u D } I h) fun f s1 q => ?_)
  cases f with
  | next =>
    obtain ⟨σ', H', I', q⟩ := q
    exact h2 pins s1 σ' H' D I' q
  | ret v => exact q
  | brk => exact q
  | cont => exact q
theorem pss_one (h1 : PS X st t) : PSs X [st] t := by
  intro pins s σ H D I h
  refine wpAny_execs_cons (thn (h1 pins s σ H D I h) fun f s1 q => ?_)
  cases f with
  | next => exact wpAny_execs_nil q
  | ret v => exact q
  | brk => exact q
  | cont => exact q
theorem Inv.quiet {pins : List (Addr × Obj)} {σ : St} {H : Hp} {s : Shared} (I : Inv X pins σ H s) : interactive X.env = false := by simp [interactive, I.ok.kind]
def tDrop (te : TE) : TS := fun D σ H => te σ H fun _ H1 => D.nx σ H1
theorem ps_expr (he : PE X e te) (hs : swapsWith e none pos.line X.env = pure false := by rfl) : PS X (.Expr e pos) (tDrop te) := by
  intro pins s σ H D I h
  exact wpAny_Expr_any (thn (he pins s σ H _ I h) fun v s1 ⟨x, H1, I1, r1, q1⟩ => ⟨σ, H1, I1, q1⟩) I.quiet hs
def tRet (te : TE) : TS := fun D σ H => te σ H D.rt
theorem ps_ret (he : PE X e te) : PS X (.Return (some e) pos) (tRet te) := by
  intro pins s σ H D I h
  exact wpAny_Return_some (thn (he pins s σ H _ I h) fun v s1 ⟨x, H1, I1, r1, q1⟩ => ⟨x, σ, H1, I1, r1, q1⟩)
def tIfS (c : TT) (t u : TS) : TS := fun D σ H => c σ H fun b H1 => if b = true then t D σ H1 else u D σ H1
theorem ps_if {c : Expr} {a b : List Stmt} {tc : TT} (hc : PT X c tc) (ha : PSs X a t) (hb : PSs X b u) : PS X (.If c a b pos) (tIfS tc t u) := by
  intro pins s σ H D I h
  refine wpAny_If (thn (hc pins s σ H _ I h) fun d s1 ⟨H1, I1, q1⟩ => ?_)
  cases d with
  | true => exact ha pins s1 σ H1 D I1 q1
  | false => exact hb pins s1 σ H1 D I1 q1
def tNever : TS := fun _ _ _ => False
theorem pss_never {sts : List Stmt} : PSs X sts tNever := fun _ _ _ _ _ _ h => h.elim
end
/-! ### targets -/
abbrev TG := V → St → Hp → (St → Hp → Prop) → Prop
abbrev TGs := List V → St → Hp → (St → Hp → Prop) → Prop
def PG (X : Cx) (target : Expr) (t : TG) : Prop :=
  ∀ (pins : List (Addr × Obj)) (s : Shared) (σ : St) (H : Hp) (v : V) (u : Value) (Q : St → Hp → Prop), Inv X pins σ H s → RelV v u → t v σ H Q →
    wpAny (model X.prog X.w) X.A (assign target X.env u) (fun _ s' => ∃ σ' H', Inv X pins σ' H' s' ∧ Q σ' H') X.xe s
def PGs (X : Cx) (ts : List Expr) (t : TGs) : Prop :=
  ∀ (pins : List (Addr × Obj)) (s : Shared) (σ : St) (H : Hp) (vs : List V) (us : List Value) (Q : St → Hp → Prop), Inv X pins σ H s → Vals vs us → t vs σ H Q →
    wpAny (model X.prog X.w) X.A (assignInOrder ((assignEach ts X.env).map (·.2)) us) (fun _ s' => ∃ σ' H', Inv X pins σ' H' s' ∧ Q σ' H') X.xe s
abbrev TSet := V → V → V → Hp → (Hp → Prop) → Prop
def PSet (X : Cx) (t : TSet) : Prop :=
  ∀ (pins : List (Addr × Obj)) (s : Shared) (σ : St) (H : Hp) (o i v : V) (ov iv u : Value) (Q : Hp → Prop), Inv X pins σ H s → RelV o ov → RelV i iv → RelV v u → t o i v H Q →
    wpAny (model X.prog X.w) X.A (setItem ov iv u) (fun _ s' => ∃ H', Inv X pins σ H' s' ∧ Q H') X.xe s
section
variable {X : Cx} {pos : Pos}
def gName (i : Nat) : TG := fun v σ H Q => Q (σ.set i (some v)) H
theorem pg_name {i : Nat} {x : Str} (hN : X.N.Nodup) (hi : X.N[i]? = some x) (hx : Loc X.env.scope x) (hf : X.fn x = true ∨ X.env.scope.names.lookup x = some .local := by first | exact .inl rfl | exact .inr rfl | assumption) : PG X (.Name x pos) (gName i) := by
  intro pins s σ H v u Q I r h
  exact wpAny_assign_Name (store_ok I hN hi hx r (fun s' I' => ⟨_, H, I', h⟩) hf)
def gNil : TGs := fun vs σ H Q => vs = [] ∧ Q σ H
def gCons (t : TG) (u : TGs) : TGs := fun vs σ H Q => ∃ v r, vs = v :: r ∧ t v σ H fun σ' H' => u r σ' H' Q
theorem pgs_nil : PGs X [] gNil := by
  intro pins s σ H vs us Q I r h
  obtain ⟨e, h⟩ := h
  subst e
  cases r
  exact assignInOrder_nil ⟨σ, H, I, h⟩
theorem pgs_cons {e : Expr} {es : List Expr} {t : TG} {u : TGs} (h1 : PG X e t) (h2 : PGs X es u)
    (hs : (assignEach (e :: es) X.env).map (·.2) = assign e X.env :: (assignEach es X.env).map (·.2) := by rfl) : PGs X (e :: es) (gCons t u) := by
  intro pins s σ H vs us Q I r h
  obtain ⟨v, vr, e1, h⟩ := h
  subst e1
  cases r with
  | cons r rr =>
    rw [hs]
    refine assignInOrder_cons (thn (h1 pins s σ H _ _ _ I r h) fun _ s1 ⟨σ1, H1, I1, q1⟩ => ?_)
    exact h2 pins s1 σ1 H1 _ _ Q I1 rr q1
def gTup (K : PySem.W.Frag) (n : Nat) (t : TGs) : TG := fun v σ H Q => ∃ a xs, v = .ref a ∧ SqT K H a xs ∧ xs.length = n ∧ t xs σ H Q
theorem pg_tup {es : List Expr} {k : Nat} {t : TGs} {n : Nat} (hc : X.calm = true) (h : PGs X es t)
    (hn : (assignEach es X.env).length = n := by rfl) (hst : (assignEach es X.env).findIdx? (·.1) = none := by rfl) : PG X (.Tuple es k pos) (gTup X.K n t) := by
  intro pins s σ H v u Q I r hw
  obtain ⟨a, xs, e1, hq, hl, hw⟩ := hw
  subst e1
  cases r
  obtain ⟨its, rv, ht, hz⟩ := I.tuple hq
  refine assign_Tuple_tuple (I.ok.hd hc) ht (by simp [hn, ← hl, rv.length]) hst fun h' hx => ?_
  have I1 : Inv X pins σ H { s with heap := h' } := I.kept (t' := s.toks) fun b o e => hx b o (Nat.ne_of_lt (Heap.lt_size e)) e
  exact h pins _ σ H xs _ Q I1 (by simpa using rv) hw
def gSub (to ti : TE) (t : TSet) : TG := fun v σ H Q => to σ H fun o H1 => ti σ H1 fun i H2 => t o i v H2 fun H3 => Q σ H3
theorem pg_sub {o i : Expr} {to ti : TE} {t : TSet} (ho : PE X o to) (hi : PE X i ti) (hs : PSet X t)
    (ha : ∀ v, assign (.Subscript o i pos) X.env v = (do
      let ov ← holding [v] (eval o X.env)
      let iv ← holding [v, ov] (eval i X.env)
      standAt pos
      holding [v, ov, iv] (setItem ov iv v)
      release [v, ov, iv] []) := by intro _; rfl) : PG X (.Subscript o i pos) (gSub to ti t) := by
  intro pins s σ H v u Q I r h
  rw [ha]
  refine wpAny_bind (wpAny_holding (thn (ho pins s σ H _ I h) fun ov s1 ⟨x, H1, I1, r1, q1⟩ => ?_))
  refine wpAny_bind (wpAny_holding (thn (hi pins s1 σ H1 _ I1 q1) fun iv s2 ⟨y, H2, I2, r2, q2⟩ => ?_))
  refine wpAny_bind (wpAny_standAt (wpAny_bind (wpAny_holding (thn (hs pins s2 σ H2 x y v ov iv u _ I2 r1 r2 r q2) fun _ s3 ⟨H3, I3, q3⟩ => ?_))))
  exact wpAny_release ⟨σ, H3, I3, q3⟩
def tAsg (te : TE) (g : TG) : TS := fun D σ H => te σ H fun x H1 => g x σ H1 D.nx
theorem ps_asg {tg e : Expr} {te : TE} {g : TG} (he : PE X e te) (hg : PG X tg g) (hs : swapsWithSole [tg] e pos.line X.env = pure false := by rfl) (hw : swappedStores [tg] e X.env = pure none := by rfl)
    (h1 : (assignEach [tg] X.env).map (·.2) = [assign tg X.env] := by rfl) : PS X (.Assign [tg] e pos) (tAsg te g) := by
  intro pins s σ H D I h
  refine wpAny_Assign_stores (thn (he pins s σ H _ I h) fun v s1 ⟨x, H1, I1, r1, q1⟩ => ?_) hs hw
  rw [h1]
  exact thn (hg pins s1 σ H1 x v _ I1 r1 q1) fun _ s2 q => q
theorem ps_set {i : Nat} {x : Str} {e : Expr} {te : TE} {pos' : Pos} (hN : X.N.Nodup) (hi : X.N[i]? = some x) (hx : Loc X.env.scope x) (he : PE X e te) (hs : swapsWith e (some (.Name x pos')) pos.line X.env = pure false := by rfl) (hf : X.fn x = true ∨ X.env.scope.names.lookup x = some .local := by first | exact .inl rfl | exact .inr rfl | assumption) :
    PS X (.Assign [.Name x pos'] e pos) (tAsg te (gName i)) := by
  intro pins s σ H D I h
  refine wpAny_Assign_Name (thn (he pins s σ H _ I h) fun v s1 ⟨y, H1, I1, r1, q1⟩ => ?_) hs
  exact store_ok I1 hN hi hx r1 (fun s2 I2 => ⟨_, H1, I2, q1⟩) hf
end
section
variable {X : Cx} {pos : Pos}
def tWhile (c : TT) (tb : TS) : TS := fun D σ H => ∃ W : Nat → St → Hp → Prop, (∃ m, W m σ H) ∧ ∀ m σ H, W m σ H →
  c σ H fun b H1 => if b = true then ∃ N : St → Hp → Prop, (∀ σ' H', N σ' H' → ∃ m', m' < m ∧ W m' σ' H') ∧ tb { D with nx := N, ct := N, bk := D.nx } σ H1 else D.nx σ H1
theorem ps_while {c : Expr} {body : List Stmt} {tc : TT} {tb : TS} (hp : PassesOwn (model X.prog X.w) X.A X.env X.xe) (hc : PT X c tc) (hb : PSs X body tb) : PS X (.While c body [] pos) (tWhile tc tb) := by
  intro pins s σ H D I h
  obtain ⟨W, ⟨m0, w0⟩, turn⟩ := h
  refine wpAny_While (codeAny_whileLoop (fun n s' => ∃ σ' H', Inv X pins σ' H' s' ∧ W n σ' H') ?_ m0 ⟨σ, H, I, w0⟩)
  rintro n s1 ⟨σ1, H1, I1, w1⟩
  refine wpAny_passesOwn hp (thn (hc pins s1 σ1 H1 _ I1 (turn n σ1 H1 w1)) fun b s2 ⟨H2, I2, q2⟩ => ?_)
  cases b with
  | true =>
    obtain ⟨N, hN, q2⟩ := q2
    rw [if_pos rfl]
    refine wpAny_passesOwn hp (thn (hb pins s2 σ1 H2 _ I2 q2) fun f s3 q3 => ?_)
    cases f with
    | next =>
      obtain ⟨σ3, H3, I3, n3⟩ := q3
      obtain ⟨m', hm, w3⟩ := hN σ3 H3 n3
      exact ⟨m', hm, σ3, H3, I3, w3⟩
    | cont =>
      obtain ⟨σ3, H3, I3, n3⟩ := q3
      obtain ⟨m', hm, w3⟩ := hN σ3 H3 n3
      exact ⟨m', hm, σ3, H3, I3, w3⟩
    | brk => exact q3
    | ret v => exact q3
  | false =>
    rw [if_neg Bool.false_ne_true]
    exact wpAny_execs_nil ⟨σ1, H2, I2, q2⟩
end
/-! ### what a loop or a comprehension walks -/
structure It where
  go : Nat → Hp → Prop
  yld : Nat → Hp → V → Hp → Prop
  stop : Nat → Hp → Prop
def FpOk (X : Cx) (pins : List (Addr × Obj)) (H : Hp) (b : Addr) : Prop :=
  H b = none ∧ b ≠ X.env.locals ∧ b ∉ X.fs ∧ (b ∈ X.ex ∨ X.s₀.heap.objs.size ≤ b) ∧ (∀ x c, X.env.cells.lookup x = some c → c ≠ b) ∧ ∀ p ∈ X.pn ++ pins, p.1 ≠ b
theorem Inv.fpOk {X : Cx} {pins : List (Addr × Obj)} {σ : St} {H H' : Hp} {s : Shared} {b : Addr} (I : Inv X pins σ H s) (hb : s.heap.objs.size ≤ b) (hn : H' b = none) : FpOk X pins H' b := by
  refine ⟨hn, Nat.ne_of_gt (Nat.lt_of_lt_of_le I.lt hb), I.nofs hb, .inr (Nat.le_trans I.sz hb), fun x c e z => ?_, fun p hp z => ?_⟩
  · obtain ⟨v, q⟩ := I.cell x c e
    exact absurd (Nat.lt_of_lt_of_le q.lt (by rw [z]; exact hb)) (Nat.lt_irrefl _)
  · exact absurd (Nat.lt_of_lt_of_le (Heap.lt_size (I.pin p hp).1) (by rw [z]; exact hb)) (Nat.lt_irrefl _)
structure Turn (P : Program) (w : World) (K : PySem.W.Frag) (tg : Expr) (J : It) (fp : List Addr) (it : Addr) (tn : Nat → Heap → Prop) : Prop where
  mem : it ∈ fp
  obj : ∀ i h, tn i h → ∀ b ∈ fp, ∃ o, h.get? b = some o ∧ ∀ v, o.data ≠ .cell v
  keep : ∀ i h h', tn i h → (∀ b ∈ fp, ∀ o, h.get? b = some o → h'.get? b = some o) → tn i h'
  item : ∀ (X : Cx), X.prog = P → X.w = w → X.K = K → X.calm = true → ∀ (i : Nat) (pins : List (Addr × Obj)) (s : Shared) (σ : St) (H : Hp) (E : Value → Shared → Prop), Inv X pins σ H s → (∀ b ∈ fp, FpOk X pins H b) → tn i s.heap → J.go i H →
    wpAny (model P w) X.A (pyNext (.ref it)) (fun r s1 => ∃ u, r = some u ∧
      wpAny (model P w) X.A (letOwnedTupleGo tg (.ref it) u) (fun _ s2 => ∃ x H', Inv X pins σ H' s2 ∧ RelV x u ∧ J.yld i H x H' ∧ tn (i + 1) s2.heap ∧ ∀ b ∈ fp, H' b = none) E s1) E s
  done : ∀ (X : Cx), X.prog = P → X.w = w → X.K = K → X.calm = true → ∀ (i : Nat) (pins : List (Addr × Obj)) (s : Shared) (σ : St) (H : Hp) (E : Value → Shared → Prop), Inv X pins σ H s → (∀ b ∈ fp, FpOk X pins H b) → tn i s.heap → J.stop i H →
    wpAny (model P w) X.A (pyNext (.ref it)) (fun r s1 => r = none ∧ Inv X pins σ H s1) E s
  self : ∀ (A : Around) (i : Nat) (s : Shared) (Q : Value → Shared → Prop) (E : Value → Shared → Prop), tn i s.heap → Q (.ref it) s → wpAny (model P w) A (pyIter (.ref it)) Q E s
abbrev TI := St → Hp → (It → Hp → Prop) → Prop
def PIE (X : Cx) (pins : List (Addr × Obj)) (σ : St) (tg : Expr) (R : It → Hp → Prop) (itv : Value) (s2 : Shared) : Prop :=
  ∃ (it : Addr) (fp : List Addr) (tn : Nat → Heap → Prop) (J : It) (H' : Hp), itv = .ref it ∧ Inv X pins σ H' s2 ∧ Turn X.prog X.w X.K tg J fp it tn ∧ tn 0 s2.heap ∧ (∀ b ∈ fp, FpOk X pins H' b) ∧ R J H'
def PI (X : Cx) (tg iter : Expr) (wi : TI) : Prop :=
  ∀ (pins : List (Addr × Obj)) (s : Shared) (σ : St) (H : Hp) (R : It → Hp → Prop), Inv X pins σ H s → wi σ H R →
    wpAny (model X.prog X.w) X.A (eval iter X.env) (fun v s1 => wpAny (model X.prog X.w) X.A (pyIter v) (PIE X pins σ tg R) X.xe s1) X.xe s
theorem go_of {M : Model} {A : Around} {E : Value → Shared → Prop} {s : Shared} {tg : Expr} {it : Addr} {u : Value} {o : Obj} {n : String} {vs : Array Value} {Q : Unit → Shared → Prop} (ho : s.heap.get? it = some o) (hc : o.cls = .type n) (hd : o.data = .fields vs)
    (hn : ["enumerate", "zip", "dict_itemiterator", "dict_reverseitemiterator", "odict_iterator", "itertools.zip_longest", "itertools.pairwise"].contains n = false) (hQ : Q () s) : wpAny M A (letOwnedTupleGo tg (.ref it) u) Q E s := by
  unfold letOwnedTupleGo
  cases tg <;> first
    | exact wpAny_pure hQ
    | (cases u <;> first
        | exact wpAny_pure hQ
        | (refine wpAny_bind (wpAny_load ho ?_)
           rw [hc, hd]
           show wpAny M A (if (["enumerate", "zip", "dict_itemiterator", "dict_reverseitemiterator", "odict_iterator", "itertools.zip_longest", "itertools.pairwise"].contains n && vs[0]? == some (rawInt _)) = true then _ else _) Q E s
           rw [if_neg (by intro h; rw [hn, Bool.false_and] at h; cases h)]
           exact wpAny_pure hQ))
def Itl (K : PySem.W.Frag) (a : Addr) : It :=
  ⟨fun i H => ∃ xs x, SqL K H a xs ∧ xs[i]? = some x, fun i H x H' => H' = H ∧ ∀ xs, SqL K H a xs → xs[i]? = some x, fun i H => ∃ xs, SqL K H a xs ∧ xs.length ≤ i⟩
def Itt (K : PySem.W.Frag) (a : Addr) : It :=
  ⟨fun i H => ∃ xs x, SqT K H a xs ∧ xs[i]? = some x, fun i H x H' => H' = H ∧ ∀ xs, SqT K H a xs → xs[i]? = some x, fun i H => ∃ xs, SqT K H a xs ∧ xs.length ≤ i⟩
def Itr (lo : Int) (n : Nat) : It := ⟨fun i _ => i < n, fun i H x H' => H' = H ∧ x = .int (lo + i), fun i _ => n ≤ i⟩
theorem turn_list {P : Program} {w : World} {K : PySem.W.Frag} {tg : Expr} (a it : Addr) : Turn P w K tg (Itl K a) [it] it (fun i h => h.IsListIter it a i) where
  mem := by simp
  obj := fun i h st b hb => by
    have e : b = it := by simpa using hb
    subst e
    obtain ⟨o, e, c, d⟩ := st
    exact ⟨o, e, fun v z => by rw [d] at z; cases z⟩
  keep := fun i h h' st k => st.at fun o e => k it (by simp) o e
  item := by
    intro X hP hw hK hc i pins s σ H E I hf st hg
    subst hP hw hK
    obtain ⟨xs, x, hq, hx⟩ := hg
    obtain ⟨its, rv, p, hz⟩ := I.list hq
    obtain ⟨u, hu, ru⟩ := rv.get hx
    obtain ⟨f0, f1, f2, f3, f4, f5⟩ := hf it (by simp)
    refine wpAny_pyNext_list_item st p.isList (x := u) (by simpa using hu) fun h' st' sb => ?_
    have I1 : Inv X pins σ H { s with heap := h' } := I.turned (t' := s.toks) (fun b o hb e => (sb.2 b hb).trans e) f0 f1 f3 f4 f5
    obtain ⟨o, e, c, d⟩ := id st'
    exact ⟨u, rfl, go_of (s := { s with heap := h' }) e c d (by decide) ⟨x, H, I1, ru, ⟨rfl, fun ys hy => by rw [I.list_inj hy hq]; exact hx⟩, st', fun b hb => (hf b hb).1⟩⟩
  done := by
    intro X hP hw hK hc i pins s σ H E I hf st hg
    subst hP hw hK
    obtain ⟨xs, hq, hx⟩ := hg
    obtain ⟨its, rv, p, hz⟩ := I.list hq
    obtain ⟨f0, f1, f2, f3, f4, f5⟩ := hf it (by simp)
    have hl := rv.length
    exact wpAny_pyNext_list_end (I.ok.hd hc) st p.isList (by simp; omega) fun h' eb => ⟨rfl, I.turned (t' := s.toks) (fun b o hb e => eb b o hb e) f0 f1 f3 f4 f5⟩
  self := fun _ _ _ _ _ st h => wpAny_pyIter_listiter st h
theorem turn_tuple {P : Program} {w : World} {K : PySem.W.Frag} {tg : Expr} (a it : Addr) : Turn P w K tg (Itt K a) [it] it (fun i h => h.IsTupleIter it a i) where
  mem := by simp
  obj := fun i h st b hb => by
    have e : b = it := by simpa using hb
    subst e
    obtain ⟨o, e, c, d⟩ := st
    exact ⟨o, e, fun v z => by rw [d] at z; cases z⟩
  keep := fun i h h' st k => st.at fun o e => k it (by simp) o e
  item := by
    intro X hP hw hK hc i pins s σ H E I hf st hg
    subst hP hw hK
    obtain ⟨xs, x, hq, hx⟩ := hg
    obtain ⟨its, rv, p, hz⟩ := I.tuple hq
    obtain ⟨u, hu, ru⟩ := rv.get hx
    obtain ⟨f0, f1, f2, f3, f4, f5⟩ := hf it (by simp)
    refine wpAny_pyNext_tuple_item st (show s.heap.IsTuple a its.toArray from p) (x := u) (by simpa using hu) fun h' st' sb => ?_
    have I1 : Inv X pins σ H { s with heap := h' } := I.turned (t' := s.toks) (fun b o hb e => (sb.2 b hb).trans e) f0 f1 f3 f4 f5
    obtain ⟨o, e, c, d⟩ := id st'
    exact ⟨u, rfl, go_of (s := { s with heap := h' }) e c d (by decide) ⟨x, H, I1, ru, ⟨rfl, fun ys hy => by rw [I.tuple_inj hy hq]; exact hx⟩, st', fun b hb => (hf b hb).1⟩⟩
  done := by
    intro X hP hw hK hc i pins s σ H E I hf st hg
    subst hP hw hK
    obtain ⟨xs, hq, hx⟩ := hg
    obtain ⟨its, rv, p, hz⟩ := I.tuple hq
    obtain ⟨f0, f1, f2, f3, f4, f5⟩ := hf it (by simp)
    have hl := rv.length
    exact wpAny_pyNext_tuple_end (I.ok.hd hc) st (show s.heap.IsTuple a its.toArray from p) (by simp; omega) fun h' eb => ⟨rfl, I.turned (t' := s.toks) (fun b o hb e => eb b o hb e) f0 f1 f3 f4 f5⟩
  self := fun _ _ _ _ _ st h => wpAny_pyIter_tupleiter st h
theorem turn_range {P : Program} {w : World} {K : PySem.W.Frag} {tg : Expr} (it : Addr) (lo : Int) (n : Nat) : Turn P w K tg (Itr lo n) [it] it (fun i h => IsRangeIter h it (lo + (i : Nat) * 1) ((n : Int) - (i : Nat)) 1) where
  mem := by simp
  obj := fun i h st b hb => by
    have e : b = it := by simpa using hb
    subst e
    exact ⟨_, st, fun v z => by
      have z' : Data.fields _ = Data.cell v := z
      cases z'⟩
  keep := fun i h h' st k => k it (by simp) _ st
  item := by
    intro X hP hw hK hc i pins s σ H E I hf st hg
    subst hP hw hK
    obtain ⟨f0, f1, f2, f3, f4, f5⟩ := hf it (by simp)
    have W := Walks.range (prog := X.prog) (w := X.w) (I.ok.hd hc) it lo 1 n
    refine TK.wpAny_up (Nat.le_refl s.toks) (W.item i s _ _ hg st fun v h' tk hv st' kk hup => ?_)
    obtain ⟨t, rfl⟩ := hv
    have I1 : Inv X pins σ H { s with heap := h', toks := tk } := I.turned (fun b o hb e => kk b o (by simpa using hb) e) f0 f1 f3 f4 f5
    refine ⟨_, rfl, go_of (s := { s with heap := h', toks := tk }) (n := "range_iterator") st' rfl rfl (by decide) ⟨.int (lo + i), H, I1, ⟨t, ?_⟩, ⟨rfl, rfl⟩, st', fun b hb => (hf b hb).1⟩⟩
    rw [Int.mul_one]
  done := by
    intro X hP hw hK hc i pins s σ H E I hf st hg
    subst hP hw hK
    obtain ⟨f0, f1, f2, f3, f4, f5⟩ := hf it (by simp)
    exact wpAny_pyNext_range_end (I.ok.hd hc) st (by have : n ≤ i := hg; omega) fun h' eb => ⟨rfl, I.turned (t' := s.toks) (fun b o hb e => eb b o hb e) f0 f1 f3 f4 f5⟩
  self := fun _ _ _ _ _ st h => wpAny_pyIter_rangeiter st h
end L2
namespace L2
open PySem PySem.Spec PyProof.Rows
section
variable {X : Cx} {tg : Expr}
def iList (K : PySem.W.Frag) (tl : TE) : TI := fun σ H R => tl σ H fun x H1 => ∃ a, x = .ref a ∧ (∃ xs, SqL K H1 a xs) ∧ R (Itl K a) H1
theorem pi_list {l : Expr} {tl : TE} (hl : PE X l tl) : PI X tg l (iList X.K tl) := by
  intro pins s σ H R I h
  refine thn (hl pins s σ H _ I h) fun v s1 ⟨x, H1, I1, r1, q1⟩ => ?_
  obtain ⟨a, e, ⟨xs, hq⟩, q⟩ := q1
  subst e
  cases r1
  obtain ⟨its, rv, p, hz⟩ := I1.list hq
  refine wpAny_pyIter_list p.isList ?_
  refine ⟨s1.heap.objs.size, [s1.heap.objs.size], _, _, H1, rfl, I1.kept (t' := s1.toks) fun b o e => Heap.get?_push_of_some _ e, turn_list a _, ⟨_, Heap.get?_push_size _ rfl, rfl, rfl⟩, fun b hb => ?_, q⟩
  have e : b = s1.heap.objs.size := by simpa using hb
  subst e
  exact I1.fpOk (Nat.le_refl _) (I1.hok.fresh (Nat.le_refl _))
theorem range_it {pins : List (Addr × Obj)} {σ : St} {H : Hp} {s : Shared} {R : It → Hp → Prop} {E : Value → Shared → Prop} {lo hi : Int} {t u v : Tok} {tk : Nat} (I : Inv X pins σ H s) (h1 : -(2 ^ 62) ≤ lo) (h2 : lo < 2 ^ 62) (h3 : -(2 ^ 62) ≤ hi) (h4 : hi < 2 ^ 62)
    (q : R (Itr lo (hi - lo).toNat) H) (htk : s.toks ≤ tk := by first | exact Nat.le_refl _ | exact Nat.le_succ _ | assumption | omega) : wpAny (model X.prog X.w) X.A (pyIter (.ref s.heap.objs.size)) (PIE X pins σ tg R) E { s with heap := s.heap.push { cls := .type "range", data := .fields #[.int lo t, .int hi u, .int 1 v] }, toks := tk } := by
  refine wpAny_pyIter_range (IsRange.new ..) (small_one h1 h2 h3 h4) ?_
  have I1 : Inv X pins σ H { s with heap := s.heap.push { cls := .type "range", data := .fields #[.int lo t, .int hi u, .int 1 v] }, toks := tk } := I.kept fun b o e => Heap.get?_push_of_some _ e
  refine ⟨(s.heap.push { cls := .type "range", data := .fields #[.int lo t, .int hi u, .int 1 v] }).objs.size, [(s.heap.push { cls := .type "range", data := .fields #[.int lo t, .int hi u, .int 1 v] }).objs.size], _, _, H, rfl,
    I1.kept (t' := tk) fun b o e => Heap.get?_push_of_some _ e, turn_range _ lo (hi - lo).toNat, ?_, fun b hb => ?_, q⟩
  · have e1 : lo + ((0 : Nat) : Int) * 1 = lo := by simp
    have e2 : (((hi - lo).toNat : Nat) : Int) - ((0 : Nat) : Int) = Builtin.Range.rangeSize lo hi 1 := by rw [rangeSize_one]; split <;> omega
    show IsRangeIter _ _ (lo + ((0 : Nat) : Int) * 1) ((((hi - lo).toNat : Nat) : Int) - ((0 : Nat) : Int)) 1
    rw [e1, e2]
    exact Heap.get?_push_size _ rfl
  · have e : b = (s.heap.push { cls := .type "range", data := .fields #[.int lo t, .int hi u, .int 1 v] }).objs.size := by simpa using hb
    subst e
    exact I1.fpOk (Nat.le_refl _) (I1.hok.fresh (Nat.le_refl _))
def iRng1 (ta : TA) : TI := fun σ H R => ta σ H fun vs H1 => ∃ j : Int, vs = [.int j] ∧ -(2 ^ 62) ≤ j ∧ j < 2 ^ 62 ∧ R (Itr 0 j.toNat) H1
def iRng2 (ta : TA) : TI := fun σ H R => ta σ H fun vs H1 => ∃ i j : Int, vs = [.int i, .int j] ∧ (-(2 ^ 62) ≤ i ∧ i < 2 ^ 62 ∧ -(2 ^ 62) ≤ j ∧ j < 2 ^ 62) ∧ R (Itr i (j - i).toNat) H1
theorem pi_range1 {a : Expr} {ta : TA} {p pos : Pos} (hg : Gl X "range") (hm : X.mg "range" = none) (ha : PA X [a] ta) (hs : starEach [a] X.env = [(false, eval a X.env)] := by rfl) : PI X tg (.Call (.Name "range" p) [a] [] pos) (iRng1 ta) := by
  intro pins s σ H R I h
  refine Call_ (ld_blt I hg hm boot_range (PyProof.Rows.callWith_type1 (thn (ha pos pins s σ H _ I h) fun us s1 ⟨vs, H1, I1, r1, q1⟩ => ?_) hs rfl))
  obtain ⟨j, e, q1, q2, q⟩ := q1
  subst e
  cases r1 with
  | cons r rr =>
    cases rr
    obtain ⟨t, rfl⟩ := r
    exact call_range_1 (range_it I1 (by omega) (by omega) q1 q2 (by simpa using q))
theorem pi_range2 {a b : Expr} {ta : TA} {p pos : Pos} (hg : Gl X "range") (hm : X.mg "range" = none) (ha : PA X [a, b] ta) (hs : starEach [a, b] X.env = [(false, eval a X.env), (false, eval b X.env)] := by rfl) (hs2 : starEach [b] X.env = [(false, eval b X.env)] := by rfl) :
    PI X tg (.Call (.Name "range" p) [a, b] [] pos) (iRng2 ta) := by
  intro pins s σ H R I h
  refine Call_ (ld_blt I hg hm boot_range (PyProof.Rows.callWith_type1 (thn (ha pos pins s σ H _ I h) fun us s1 ⟨vs, H1, I1, r1, q1⟩ => ?_) (by rw [hs, hs2]) (by rw [hs2]; rfl)))
  obtain ⟨i, j, e, ⟨q1, q2, q3, q4⟩, q⟩ := q1
  subst e
  cases r1 with
  | cons r rr =>
    cases rr with
    | cons r' rr =>
      cases rr
      obtain ⟨t, rfl⟩ := r
      obtain ⟨t', rfl⟩ := r'
      exact call_range_2 (range_it I1 q1 q2 q3 q4 q)
/-! ### for -/
def tFor (wi : TI) (g : TG) (tb : TS) : TS := fun D σ H => wi σ H fun J H1 => ∃ W : Nat → Nat → St → Hp → Prop, (∃ m, W 0 m σ H1) ∧ ∀ i m σ H, W i m σ H →
  (J.stop i H ∧ D.nx σ H) ∨ (J.go i H ∧ ∃ N : St → Hp → Prop, (∀ σ' H', N σ' H' → ∃ m', m' < m ∧ W (i + 1) m' σ' H') ∧ ∀ x H', J.yld i H x H' → g x σ H' fun σ2 H2 => tb { D with nx := N, ct := N, bk := D.nx } σ2 H2)
def pinsAt (fp : List Addr) (h : Heap) : List (Addr × Obj) := fp.filterMap fun b => (h.get? b).map fun o => (b, o)
theorem mem_pinsAt {fp : List Addr} {h : Heap} {b : Addr} {o : Obj} (hb : b ∈ fp) (e : h.get? b = some o) : (b, o) ∈ pinsAt fp h := List.mem_filterMap.mpr ⟨b, hb, by rw [e]; rfl⟩
theorem of_pinsAt {fp : List Addr} {h : Heap} {p : Addr × Obj} (hp : p ∈ pinsAt fp h) : p.1 ∈ fp ∧ h.get? p.1 = some p.2 := by
  obtain ⟨b, hb, e⟩ := List.mem_filterMap.mp hp
  cases q : h.get? b with
  | none => rw [q] at e; cases e
  | some o =>
    rw [q] at e
    have e' : (b, o) = p := Option.some.inj e
    subst e'
    exact ⟨hb, q⟩
theorem Inv.pinned {pins : List (Addr × Obj)} {σ : St} {H : Hp} {s : Shared} {fp : List Addr} (I : Inv X pins σ H s) (hf : ∀ b ∈ fp, FpOk X pins H b) (ho : ∀ b ∈ fp, ∃ o, s.heap.get? b = some o ∧ ∀ v, o.data ≠ .cell v) : Inv X (pins ++ pinsAt fp s.heap) σ H s :=
  I.pins_of fun p hp => (List.mem_append.mp hp).elim (fun z => I.pin p (List.mem_append_right _ z)) fun z => by
    obtain ⟨hb, e⟩ := of_pinsAt z
    obtain ⟨f0, f1, f2, _⟩ := hf p.1 hb
    obtain ⟨o, e', d⟩ := ho p.1 hb
    rw [e] at e'; cases e'
    exact ⟨e, f0, f1, f2, d⟩
theorem Inv.unpinned {pins pl : List (Addr × Obj)} {σ : St} {H : Hp} {s : Shared} (I : Inv X (pins ++ pl) σ H s) : Inv X pins σ H s := I.pins_of fun p hp => I.pin p (List.mem_append_right _ (List.mem_append_left _ hp))
theorem ps_for {iter : Expr} {body : List Stmt} {wi : TI} {g : TG} {tb : TS} {pos : Pos} (hp : PassesOwn (model X.prog X.w) X.A X.env X.xe) (hc : X.calm = true) (hi : PI X tg iter wi) (hg : PG X tg g) (hb : PSs X body tb)
    (hs : ∀ x, foldedSetIterable iter X.env x = pure x := by intro _; rfl) : PS X (.For tg iter body [] pos) (tFor wi g tb) := by
  intro pins s σ H D I h
  refine wpAny_For (thn (hi pins s σ H _ I h) fun v s1 h1 => thn h1 fun itv s2 h2 => ?_) hs
  obtain ⟨it, fp, tn, J, H2, e, I2, T, st2, f2, W, ⟨m0, w0⟩, turn⟩ := h2
  subst e
  -- what stays true of the iterator's objects through the loop
  have stat : ∀ {H' : Hp}, (∀ b ∈ fp, H' b = none) → ∀ b ∈ fp, FpOk X pins H' b := fun hn b hb => ⟨hn b hb, (f2 b hb).2⟩
  refine codeAny_forLoop_any (fun n s' => ∃ i σ' H', Inv X pins σ' H' s' ∧ tn i s'.heap ∧ (∀ b ∈ fp, H' b = none) ∧ W i n σ' H') ?_ m0 ⟨0, σ, H2, I2, st2, fun b hb => (f2 b hb).1, w0⟩
  rintro n s3 ⟨i, σ3, H3, I3, st3, fr3, w3⟩
  rcases turn i n σ3 H3 w3 with ⟨stop, qn⟩ | ⟨go, N, hN, step⟩
  · refine wpAny_passesOwn hp (thn (T.done X rfl rfl rfl hc i pins s3 σ3 H3 X.xe I3 (stat fr3) st3 stop) fun r s4 ⟨hr, I4⟩ => ?_)
    subst hr
    exact wpAny_execs_nil ⟨σ3, H3, I4, qn⟩
  · refine wpAny_passesOwn hp (thn (T.item X rfl rfl rfl hc i pins s3 σ3 H3 X.xe I3 (stat fr3) st3 go) fun r s4 ⟨u, hr, h4⟩ => ?_)
    subst hr
    refine wpAny_passesOwn hp (thn h4 fun _ s5 ⟨x, H5, I5, r5, y5, st5, fr5⟩ => ?_)
    have I5' := I5.pinned (stat fr5) (T.obj _ _ st5)
    refine wpAny_passesOwn hp (thn (hg _ s5 σ3 H5 x u _ I5' r5 (step x H5 y5)) fun _ s6 ⟨σ6, H6, I6, q6⟩ => ?_)
    refine wpAny_passesOwn hp (thn (hb _ s6 σ6 H6 _ I6 q6) fun f s7 q7 => ?_)
    have again : ∀ {σ7 : St} {H7 : Hp}, Inv X (pins ++ pinsAt fp s5.heap) σ7 H7 s7 → N σ7 H7 → ∃ m, m < n ∧ ∃ i σ' H', Inv X pins σ' H' s7 ∧ tn i s7.heap ∧ (∀ b ∈ fp, H' b = none) ∧ W i m σ' H' := fun {σ7 H7} I7 n7 => by
      obtain ⟨m', hm, w7⟩ := hN σ7 H7 n7
      refine ⟨m', hm, i + 1, σ7, H7, I7.unpinned, T.keep _ _ _ st5 fun b hb o e => (I7.pin (b, o) (List.mem_append_right _ (List.mem_append_right _ (mem_pinsAt hb e)))).1, fun b hb => ?_, w7⟩
      obtain ⟨o, e, d⟩ := T.obj _ _ st5 b hb
      exact (I7.pin (b, o) (List.mem_append_right _ (List.mem_append_right _ (mem_pinsAt hb e)))).2.1
    cases f with
    | next => obtain ⟨σ7, H7, I7, n7⟩ := q7; exact again I7 n7
    | cont => obtain ⟨σ7, H7, I7, n7⟩ := q7; exact again I7 n7
    | brk => obtain ⟨σ7, H7, I7, q7⟩ := q7; exact ⟨σ7, H7, I7.unpinned, q7⟩
    | ret v => obtain ⟨x7, σ7, H7, I7, r7, q7⟩ := q7; exact ⟨x7, σ7, H7, I7.unpinned, r7, q7⟩
end
/-! ### the forms one uses -/
theorem for_list {K : PySem.W.Frag} {a : Addr} {xs : List V} {g : TG} {tb : TS} {D : Ends} {σ : St} {H : Hp} (Pv : Nat → St → Hp → Prop) (h0 : Pv 0 σ H) (hl : ∀ i σ H, i ≤ xs.length → Pv i σ H → SqL K H a xs)
    (hs : ∀ i x σ H, xs[i]? = some x → Pv i σ H → g x σ H fun σ2 H2 => tb { D with nx := Pv (i + 1), ct := Pv (i + 1), bk := D.nx } σ2 H2) (hd : ∀ σ H, Pv xs.length σ H → D.nx σ H) :
    ∃ W : Nat → Nat → St → Hp → Prop, (∃ m, W 0 m σ H) ∧ ∀ i m σ H, W i m σ H →
      ((Itl K a).stop i H ∧ D.nx σ H) ∨ ((Itl K a).go i H ∧ ∃ N : St → Hp → Prop, (∀ σ' H', N σ' H' → ∃ m', m' < m ∧ W (i + 1) m' σ' H') ∧ ∀ x H', (Itl K a).yld i H x H' → g x σ H' fun σ2 H2 => tb { D with nx := N, ct := N, bk := D.nx } σ2 H2) := by
  refine ⟨fun i m σ H => m = xs.length - i ∧ i ≤ xs.length ∧ Pv i σ H, ⟨xs.length, by simp, Nat.zero_le _, h0⟩, ?_⟩
  rintro i m σ H ⟨rfl, hi, p⟩
  have q := hl i σ H hi p
  by_cases hlt : i < xs.length
  · refine .inr ⟨⟨xs, xs[i], q, by simp [hlt]⟩, Pv (i + 1), fun σ' H' p' => ⟨xs.length - (i + 1), by omega, rfl, hlt, p'⟩, fun x H' y => ?_⟩
    obtain ⟨e, y⟩ := y
    subst e
    exact hs i x σ _ (y xs q) p
  · have e : i = xs.length := by omega
    subst e
    exact .inl ⟨⟨xs, q, Nat.le_refl _⟩, hd σ H p⟩
theorem for_range {lo : Int} {n : Nat} {g : TG} {tb : TS} {D : Ends} {σ : St} {H : Hp} (Pv : Nat → St → Hp → Prop) (h0 : Pv 0 σ H)
    (hs : ∀ i σ H, i < n → Pv i σ H → g (.int (lo + i)) σ H fun σ2 H2 => tb { D with nx := Pv (i + 1), ct := Pv (i + 1), bk := D.nx } σ2 H2) (hd : ∀ σ H, Pv n σ H → D.nx σ H) :
    ∃ W : Nat → Nat → St → Hp → Prop, (∃ m, W 0 m σ H) ∧ ∀ i m σ H, W i m σ H →
      ((Itr lo n).stop i H ∧ D.nx σ H) ∨ ((Itr lo n).go i H ∧ ∃ N : St → Hp → Prop, (∀ σ' H', N σ' H' → ∃ m', m' < m ∧ W (i + 1) m' σ' H') ∧ ∀ x H', (Itr lo n).yld i H x H' → g x σ H' fun σ2 H2 => tb { D with nx := N, ct := N, bk := D.nx } σ2 H2) := by
  refine ⟨fun i m σ H => m = n - i ∧ i ≤ n ∧ Pv i σ H, ⟨n, by simp, Nat.zero_le _, h0⟩, ?_⟩
  rintro i m σ H ⟨rfl, hi, p⟩
  by_cases hlt : i < n
  · refine .inr ⟨hlt, Pv (i + 1), fun σ' H' p' => ⟨n - (i + 1), by omega, rfl, hlt, p'⟩, fun x H' y => ?_⟩
    obtain ⟨e, y⟩ := y
    subst e y
    exact hs i σ _ hlt p
  · have e : i = n := by omega
    subst e
    exact .inl ⟨Nat.le_refl _, hd σ H p⟩
end L2
namespace L2
open PySem PySem.Spec PyProof.Rows
abbrev R2 := V → V → Hp → VK → Prop
def OpR (X : Cx) (f : Value → Value → Sem Value) (r : R2) : Prop :=
  ∀ (pins : List (Addr × Obj)) (s : Shared) (σ : St) (H : Hp) (x y : V) (v u : Value) (Q : VK), Inv X pins σ H s → RelV x v → RelV y u → r x y H Q →
    wpAny (model X.prog X.w) X.A (f v u) (EP X pins σ Q) X.xe s
def CallR (X : Cx) (f : Value) (r : List V → Hp → VK → Prop) : Prop :=
  ∀ (pins : List (Addr × Obj)) (s : Shared) (σ : St) (H : Hp) (xs : List V) (us : List Value) (Q : VK), Inv X pins σ H s → Vals xs us → r xs H Q →
    wpAny (model X.prog X.w) X.A (call f us) (EP X pins σ Q) X.xe s
def tOp (r : R2) (ta tb : TE) : TE := fun σ H Q => ta σ H fun x H1 => tb σ H1 fun y H2 => r x y H2 Q
def rI (C : Int → Int → Prop) (g : Int → Int → V) : R2 := fun x y H Q => ∃ i j, x = .int i ∧ y = .int j ∧ C i j ∧ Q (g i j) H
def rI0 (g : Int → Int → V) : R2 := fun x y H Q => ∃ i j, x = .int i ∧ y = .int j ∧ Q (g i j) H
section
variable {X : Cx} {a b c : Expr} {ta tb tc : TE} {pos : Pos}
theorem binT (ha : PE X a ta) (hb : PE X b tb) {pins : List (Addr × Obj)} {s : Shared} {σ : St} {H : Hp} {R : V → V → Hp → Prop} (I : Inv X pins σ H s)
    (h : ta σ H fun x H1 => tb σ H1 fun y H2 => R x y H2) {Q : Value → Shared → Prop} {f : Value → Value → Sem Value}
    (hf : ∀ v u s2 x y H2, Inv X pins σ H2 s2 → RelV x v → RelV y u → R x y H2 → wpAny (model X.prog X.w) X.A (f v u) Q X.xe s2) :
    wpAny (model X.prog X.w) X.A (eval a X.env) (fun v s₁ => wpAny (model X.prog X.w) X.A (eval b X.env) (fun u s₂ => wpAny (model X.prog X.w) X.A (f v u) Q X.xe s₂) X.xe s₁) X.xe s := by
  refine thn (ha pins s σ H _ I h) fun v s1 ⟨x, H1, I1, r1, q1⟩ => ?_
  refine thn (hb pins s1 σ H1 _ I1 q1) fun u s2 ⟨y, H2, I2, r2, q2⟩ => ?_
  exact hf v u s2 x y H2 I2 r1 r2 q2
theorem pe_op {op : Operator} {r : R2} (ho : OpR X (binaryOp op) r) (ha : PE X a ta) (hb : PE X b tb) : PE X (.BinOp a op b pos) (tOp r ta tb) := by
  intro pins s σ H Q I h
  exact wpAny_BinOp (binT ha hb I h fun v u s2 x y H2 I2 rx ry q => ho pins s2 σ H2 x y v u Q I2 rx ry q)
/-! ### ints -/
theorem opI {f : Value → Value → Sem Value} {C : Int → Int → Prop} {g : Int → Int → Int}
    (rule : ∀ (i j : Int) (t u : Tok) (s : Shared) (Q : Value → Shared → Prop) (E : Value → Shared → Prop), C i j → Q (.int (g i j) s.toks) { s with toks := s.toks + 1 } → wpAny (model X.prog X.w) X.A (f (.int i t) (.int j u)) Q E s) :
    OpR X f (rI C fun i j => .int (g i j)) := by
  intro pins s σ H x y v u Q I rx ry h
  obtain ⟨i, j, rfl, rfl, hc, q⟩ := h
  obtain ⟨t, rfl⟩ := rx
  obtain ⟨t', rfl⟩ := ry
  exact rule i j t t' s _ _ hc ⟨.int (g i j), H, I.tok _, ⟨_, rfl⟩, q⟩
theorem opI0 {f : Value → Value → Sem Value} {g : Int → Int → Int}
    (rule : ∀ (i j : Int) (t u : Tok) (s : Shared) (Q : Value → Shared → Prop) (E : Value → Shared → Prop), Q (.int (g i j) s.toks) { s with toks := s.toks + 1 } → wpAny (model X.prog X.w) X.A (f (.int i t) (.int j u)) Q E s) :
    OpR X f (rI0 fun i j => .int (g i j)) := by
  intro pins s σ H x y v u Q I rx ry h
  obtain ⟨i, j, rfl, rfl, q⟩ := h
  obtain ⟨t, rfl⟩ := rx
  obtain ⟨t', rfl⟩ := ry
  exact rule i j t t' s _ _ ⟨.int (g i j), H, I.tok _, ⟨_, rfl⟩, q⟩
theorem opB0 {f : Value → Value → Sem Value} {g : Int → Int → Bool}
    (rule : ∀ (i j : Int) (t u : Tok) (s : Shared) (Q : Value → Shared → Prop) (E : Value → Shared → Prop), Q (.bool (g i j)) s → wpAny (model X.prog X.w) X.A (f (.int i t) (.int j u)) Q E s) :
    OpR X f (rI0 fun i j => .bl (g i j)) := by
  intro pins s σ H x y v u Q I rx ry h
  obtain ⟨i, j, rfl, rfl, q⟩ := h
  obtain ⟨t, rfl⟩ := rx
  obtain ⟨t', rfl⟩ := ry
  exact rule i j t t' s _ _ ⟨.bl (g i j), H, I, rfl, q⟩
def CDiv (i j : Int) : Prop := 0 < j ∧ j < 1073741824
def CPow (i j : Int) : Prop := 0 ≤ j ∧ j ≤ 1000000 ∧ i.natAbs < 2 ^ 64
def CMul (i j : Int) : Prop := (-(2 ^ 64) < i ∧ i < 2 ^ 64) ∨ (-(2 ^ 64) < j ∧ j < 2 ^ 64)
theorem CMul.ok {i j : Int} (h : CMul i j) : IntMulOk i j := by
  rcases h with ⟨h1, h2⟩ | ⟨h1, h2⟩
  · exact .of_left (intBits_le_64 h1 h2)
  · exact .of_right (intBits_le_64 h1 h2)
theorem op_add : OpR X (binaryOp .Add) (rI0 fun i j => .int (i + j)) := opI0 fun _ _ _ _ _ _ _ q => add_int q
theorem op_sub : OpR X (binaryOp .Sub) (rI0 fun i j => .int (i - j)) := opI0 fun _ _ _ _ _ _ _ q => sub_int q
theorem op_mul : OpR X (binaryOp .Mult) (rI CMul fun i j => .int (i * j)) := opI fun _ _ _ _ _ _ _ hc q => mul_int q hc.ok
theorem op_fdiv : OpR X (binaryOp .FloorDiv) (rI CDiv fun i j => .int (i / j)) := opI fun i j _ _ _ _ _ hc q => by
  have h1 : (0 : Int) < j := hc.1
  have h2 : j < 1073741824 := hc.2
  exact floordiv_int (by omega) (by rw [Int.fdiv_eq_ediv_of_nonneg i (by omega)]; exact q) (.inl (PyProof.noPylong_small (by omega)))
theorem op_mod : OpR X (binaryOp .Mod) (rI (fun _ j => 0 < j) fun i j => .int (i % j)) := opI fun i j _ _ _ _ _ hc q => by
  have h1 : (0 : Int) < j := hc
  exact mod_int' (by omega) (by rw [Int.fmod_eq_emod_of_nonneg i (by omega)]; exact q)
theorem op_pow : OpR X (binaryOp .Pow) (rI CPow fun i j => .int (i ^ j.toNat)) := opI fun _ _ _ _ _ _ _ hc q => pow_int_small hc.1 hc.2.1 hc.2.2 q
end
/-! ### comparisons -/
def scal : V → V → Bool
  | .non, .non => true | .non, .int _ => true | .int _, .non => true | .non, .bl _ => true | .bl _, .non => true | .non, .str _ => true | .str _, .non => true
  | .int _, .int _ => true | .bl _, .bl _ => true | .str _, .str _ => true | .byt _, .byt _ => true
  | .int _, .str _ => true | .str _, .int _ => true | .bl _, .str _ => true | .str _, .bl _ => true
  | _, _ => false
def rEq : R2 := fun x y H Q => scal x y = true ∧ Q (.bl (decide (x = y))) H
def rNe : R2 := fun x y H Q => scal x y = true ∧ Q (.bl (!decide (x = y))) H
theorem dec_int {i j : Int} : decide (V.int i = V.int j) = (i == j) := by
  rw [Bool.eq_iff_iff]
  simp
theorem dec_bl {i j : Bool} : decide (V.bl i = V.bl j) = (i == j) := by
  rw [Bool.eq_iff_iff]
  simp
theorem dec_str {i j : Str} : decide (V.str i = V.str j) = (i == j) := by
  rw [Bool.eq_iff_iff]
  simp
theorem dec_byt {i j : Array UInt8} : decide (V.byt i = V.byt j) = (i.toList == j.toList) := by
  rw [Bool.eq_iff_iff]
  cases i
  cases j
  simp
section
variable {X : Cx} {a b c : Expr} {ta tb tc : TE} {pos : Pos}
theorem fin_bl {pins : List (Addr × Obj)} {σ : St} {H : Hp} {s : Shared} {Q : VK} {k k' : Bool} (I : Inv X pins σ H s) (q : Q (.bl k) H) (e : k = k') : EP X pins σ Q (.bool k') s := by
  subst e
  exact ⟨.bl k, H, I, rfl, q⟩
theorem op_eq : OpR X (compareOp .Eq) rEq := by
  intro pins s σ H x y v u Q I rx ry h
  obtain ⟨hs, q⟩ := h
  cases x with
  | non =>
    cases rx
    cases y with
    | non => cases ry; exact PySem.EqNone.eq_none_none (fin_bl I q (by simp))
    | bl j => cases ry; exact PySem.EqNone.eq_none_bool (fin_bl I q (by simp))
    | int j => obtain ⟨t', rfl⟩ := ry; exact PySem.EqNone.eq_none_int (fin_bl I q (by simp))
    | str j => obtain ⟨t', rfl⟩ := ry; exact PySem.EqNone.eq_none_str (fin_bl I q (by simp))
    | _ => exact absurd (show false = true from hs) Bool.false_ne_true
  | bl i =>
    cases rx
    cases y with
    | non => cases ry; exact PySem.EqNone.eq_bool_none (fin_bl I q (by simp))
    | bl j => cases ry; exact eq_bool (fin_bl I q dec_bl)
    | str j => obtain ⟨t', rfl⟩ := ry; exact PySem.EqMixed.eq_bool_str (fin_bl I q (by simp))
    | _ => exact absurd (show false = true from hs) Bool.false_ne_true
  | int i =>
    obtain ⟨t, rfl⟩ := rx
    cases y with
    | non => cases ry; exact PySem.EqNone.eq_int_none (fin_bl I q (by simp))
    | int j => obtain ⟨t', rfl⟩ := ry; exact eq_int (fin_bl I q dec_int)
    | str j => obtain ⟨t', rfl⟩ := ry; exact PySem.EqMixed.eq_int_str (fin_bl I q (by simp))
    | _ => exact absurd (show false = true from hs) Bool.false_ne_true
  | str i =>
    obtain ⟨t, rfl⟩ := rx
    cases y with
    | non => cases ry; exact PySem.EqNone.eq_str_none (fin_bl I q (by simp))
    | bl j => cases ry; exact PySem.EqMixed.eq_str_bool (fin_bl I q (by simp))
    | int j => obtain ⟨t', rfl⟩ := ry; exact PySem.EqMixed.eq_str_int (fin_bl I q (by simp))
    | str j => obtain ⟨t', rfl⟩ := ry; exact eq_str (fin_bl I q dec_str)
    | _ => exact absurd (show false = true from hs) Bool.false_ne_true
  | byt i =>
    obtain ⟨t, rfl⟩ := rx
    cases y with
    | byt j => obtain ⟨t', rfl⟩ := ry; exact PySem.W.eq_bytes (fin_bl I q dec_byt)
    | _ => exact absurd (show false = true from hs) Bool.false_ne_true
  | _ => cases y <;> exact absurd (show false = true from hs) Bool.false_ne_true
theorem op_ne : OpR X (compareOp .NotEq) rNe := by
  intro pins s σ H x y v u Q I rx ry h
  obtain ⟨hs, q⟩ := h
  cases x with
  | non =>
    cases rx
    cases y with
    | non => cases ry; exact PySem.EqNone.ne_none_none (fin_bl I q (by simp))
    | bl j => cases ry; exact PySem.EqNone.ne_none_bool (fin_bl I q (by simp))
    | int j => obtain ⟨t', rfl⟩ := ry; exact PySem.EqNone.ne_none_int (fin_bl I q (by simp))
    | str j => obtain ⟨t', rfl⟩ := ry; exact PySem.EqNone.ne_none_str (fin_bl I q (by simp))
    | _ => exact absurd (show false = true from hs) Bool.false_ne_true
  | bl i =>
    cases rx
    cases y with
    | non => cases ry; exact PySem.EqNone.ne_bool_none (fin_bl I q (by simp))
    | bl j => cases ry; exact ne_bool (fin_bl I q (congrArg not dec_bl))
    | str j => obtain ⟨t', rfl⟩ := ry; exact PySem.EqMixed.ne_bool_str (fin_bl I q (by simp))
    | _ => exact absurd (show false = true from hs) Bool.false_ne_true
  | int i =>
    obtain ⟨t, rfl⟩ := rx
    cases y with
    | non => cases ry; exact PySem.EqNone.ne_int_none (fin_bl I q (by simp))
    | int j => obtain ⟨t', rfl⟩ := ry; exact ne_int (fin_bl I q (congrArg not dec_int))
    | str j => obtain ⟨t', rfl⟩ := ry; exact PySem.EqMixed.ne_int_str (fin_bl I q (by simp))
    | _ => exact absurd (show false = true from hs) Bool.false_ne_true
  | str i =>
    obtain ⟨t, rfl⟩ := rx
    cases y with
    | non => cases ry; exact PySem.EqNone.ne_str_none (fin_bl I q (by simp))
    | bl j => cases ry; exact PySem.EqMixed.ne_str_bool (fin_bl I q (by simp))
    | int j => obtain ⟨t', rfl⟩ := ry; exact PySem.EqMixed.ne_str_int (fin_bl I q (by simp))
    | str j => obtain ⟨t', rfl⟩ := ry; exact ne_str (fin_bl I q (congrArg not dec_str))
    | _ => exact absurd (show false = true from hs) Bool.false_ne_true
  | byt i =>
    obtain ⟨t, rfl⟩ := rx
    cases y with
    | byt j => obtain ⟨t', rfl⟩ := ry; exact PySem.W.ne_bytes (fin_bl I q (congrArg not dec_byt))
    | _ => exact absurd (show false = true from hs) Bool.false_ne_true
  | _ => cases y <;> exact absurd (show false = true from hs) Bool.false_ne_true
theorem op_lt : OpR X (compareOp .Lt) (rI0 fun i j => .bl (decide (i < j))) := opB0 fun _ _ _ _ _ _ _ q => lt_int q
theorem op_le : OpR X (compareOp .LtE) (rI0 fun i j => .bl (decide (i ≤ j))) := opB0 fun _ _ _ _ _ _ _ q => le_int q
theorem op_gt : OpR X (compareOp .Gt) (rI0 fun i j => .bl (decide (j < i))) := opB0 fun _ _ _ _ _ _ _ q => gt_int q
theorem nomark (b : Expr) {op : CmpOp} (h : op ≠ .In := by decide) (h2 : op ≠ .NotIn := by decide) : behindInMarks op b = false := by
  have e1 : (op == CmpOp.In) = false := by cases op <;> first | rfl | exact absurd rfl h
  have e2 : (op == CmpOp.NotIn) = false := by cases op <;> first | rfl | exact absurd rfl h2
  cases b <;> simp [behindInMarks, e1, e2]
theorem pe_cmpR {op : CmpOp} {r : R2} (ho : OpR X (compareOp op) r) (ha : PE X a ta) (hb : PE X b tb) (hm : behindInMarks op b = false) : PE X (.Compare a [op] [b] pos) (tOp r ta tb) := by
  intro pins s σ H Q I h
  exact wpAny_Compare1 (binT ha hb I h fun v u s2 x y H2 I2 rx ry q => ho pins s2 σ H2 x y v u Q I2 rx ry q) hm
def tTest (t : TE) : TT := fun σ H Q => t σ H fun x H' => ∃ k, x = .bl k ∧ Q k H'
theorem pt_cmpR {op : CmpOp} {r : R2} (ho : OpR X (compareOp op) r) (ha : PE X a ta) (hb : PE X b tb) (hm : behindInMarks op b = false) : PT X (.Compare a [op] [b] pos) (tTest (tOp r ta tb)) := by
  intro pins s σ H Q I h
  refine wpAny_isTrue_Compare1 (thn (ha pins s σ H _ I h) fun v s1 ⟨x, H1, I1, r1, q1⟩ => thn (hb pins s1 σ H1 _ I1 q1) fun u s2 ⟨y, H2, I2, r2, q2⟩ =>
    thn (ho pins s2 σ H2 x y v u _ I2 r1 r2 q2) fun c s3 ⟨z, H3, I3, r3, k, e, q3⟩ => ?_) hm
  subst e
  cases r3
  exact wpAny_truthy_bool ⟨H3, I3, q3⟩
def tChain (r r' : R2) (ta tb tc : TE) : TE := fun σ H Q => ta σ H fun x H1 => tb σ H1 fun y H2 => r x y H2 fun z H3 => ∃ k, z = .bl k ∧
  (if k = true then tc σ H3 fun w' H4 => r' y w' H4 Q else Q (.bl false) H3)
theorem pe_chain {op op' : CmpOp} {r r' : R2} (ho : OpR X (compareOp op) r) (ho' : OpR X (compareOp op') r') (ha : PE X a ta) (hb : PE X b tb) (hc : PE X c tc)
    (hm : lastMarks [op, op'] [b, c] = false := by with_unfolding_all rfl) : PE X (.Compare a [op, op'] [b, c] pos) (tChain r r' ta tb tc) := by
  intro pins s σ H Q I h
  refine Compare_chain (thn (ha pins s σ H _ I h) fun v s1 ⟨x, H1, I1, r1, q1⟩ => chain_link (thn (hb pins s1 σ H1 _ I1 q1) fun u s2 ⟨y, H2, I2, r2, q2⟩ =>
    thn (ho pins s2 σ H2 x y v u _ I2 r1 r2 q2) fun d s3 ⟨z, H3, I3, r3, k, e, q3⟩ => ?_)) hm
  subst e
  cases r3
  refine wpAny_truthy_bool ?_
  cases k with
  | false => exact ite_ff ⟨.bl false, H3, I3, rfl, q3⟩
  | true => exact ite_tt (chain_last (thn (hc pins s3 σ H3 _ I3 q3) fun w' s4 ⟨z', H4, I4, r4, q4⟩ => ho' pins s4 σ H4 y z' u w' Q I4 r2 r4 q4))
theorem line63 : (sizeLine : Nat) < 2 ^ 63 := by rw [sizeLine_eq]; decide
theorem op_add_str : OpR X (binaryOp .Add) (fun x y H Q => ∃ i j, x = .str i ∧ y = .str j ∧ i.length + j.length ≤ sizeLine ∧ Q (.str (i ++ j)) H) := by
  intro pins s σ H x y v u Q I rx ry h
  obtain ⟨i, j, rfl, rfl, hz, q⟩ := h
  obtain ⟨t, rfl⟩ := rx
  obtain ⟨t', rfl⟩ := ry
  exact TK.wpAny_up (Nat.le_refl _) (add_str (fun t' tk hup => ⟨.str (i ++ j), H, I.tok _, ⟨_, rfl⟩, q⟩) hz)
/-! ### scalar builtins, by CallR -/
theorem vals1 {x : V} {us : List Value} (r : Vals [x] us) : ∃ u, us = [u] ∧ RelV x u := by
  cases r with
  | cons r1 r2 => cases r2; exact ⟨_, rfl, r1⟩
theorem vals2 {x y : V} {us : List Value} (r : Vals [x, y] us) : ∃ u w', us = [u, w'] ∧ RelV x u ∧ RelV y w' := by
  cases r with
  | cons r1 r2 =>
    cases r2 with
    | cons r3 r4 => cases r4; exact ⟨_, _, rfl, r1, r3⟩
theorem call_abs : CallR X (.builtin "abs") (fun xs H Q => ∃ i, xs = [.int i] ∧ Q (.int (if i < 0 then -i else i)) H) := by
  intro pins s σ H xs us Q I r h
  obtain ⟨i, rfl, q⟩ := h
  obtain ⟨u, rfl, t, rfl⟩ := vals1 r
  exact TK.wpAny_up (Nat.le_refl _) (call_abs_int fun u tk hup => ⟨.int (if i < 0 then -i else i), H, I.tok _, ⟨_, rfl⟩, q⟩)
theorem call_ord : CallR X (.builtin "ord") (fun xs H Q => ∃ x, xs = [.str x] ∧ x.length = 1 ∧ Q (.int (x.cps.getD 0 0 : Nat)) H) := by
  intro pins s σ H xs us Q I r h
  obtain ⟨x, rfl, hz, q⟩ := h
  obtain ⟨u, rfl, t, rfl⟩ := vals1 r
  exact ord_of_one hz ⟨.int _, H, I.tok _, ⟨_, rfl⟩, q⟩
def LenV (K : PySem.W.Frag) (x : V) (H : Hp) (n : Nat) : Prop :=
  match x with
  | .str y => y.length ≤ sizeLine ∧ n = y.length
  | .byt y => y.size ≤ sizeLine ∧ n = y.size
  | .ref p => (∃ xs, SqL K H p xs ∧ n = xs.length) ∨ ∃ xs, SqT K H p xs ∧ n = xs.length
  | _ => False
theorem call_len : CallR X (.builtin "len") (fun xs H Q => ∃ x n, xs = [x] ∧ LenV X.K x H n ∧ Q (.int n) H) := by
  intro pins s σ H xs us Q I r h
  obtain ⟨x, n, rfl, e, q⟩ := h
  obtain ⟨u, rfl, rx⟩ := vals1 r
  have hl := line63
  have hs : sizeLine = 16777216 := sizeLine_eq
  cases x with
  | str y =>
    obtain ⟨t, rfl⟩ := rx
    obtain ⟨hy, e'⟩ : y.length ≤ sizeLine ∧ n = y.length := e
    subst e'
    exact len_str (by omega) ⟨.int _, H, I.tok _, ⟨_, rfl⟩, q⟩
  | byt y =>
    obtain ⟨t, rfl⟩ := rx
    obtain ⟨hy, e'⟩ : y.size ≤ sizeLine ∧ n = y.size := e
    subst e'
    exact PySem.W.len_bytes (by omega) ⟨.int _, H, I.tok _, ⟨_, rfl⟩, q⟩
  | ref p =>
    cases rx
    have e' : (∃ xs, SqL X.K H p xs ∧ n = xs.length) ∨ ∃ xs, SqT X.K H p xs ∧ n = xs.length := e
    rcases e' with ⟨xs, hx, e'⟩ | ⟨xs, hx, e'⟩
    · subst e'
      obtain ⟨its, r', pl, hz⟩ := I.list hx
      have hlen := r'.length
      exact Calls.call_len_list pl.isList (by simp only [List.size_toArray]; omega) ⟨.int xs.length, H, I.tok _, ⟨_, by simp only [List.size_toArray]; rw [hlen]⟩, q⟩
    · subst e'
      obtain ⟨its, r', pl, hz⟩ := I.tuple hx
      have hlen := r'.length
      exact len_tuple pl (by simp only [List.size_toArray]; omega) ⟨.int xs.length, H, I.tok _, ⟨_, by simp only [List.size_toArray]; rw [hlen]⟩, q⟩
  | _ => exact (show False from e).elim
end
end L2
namespace L2
open PySem PySem.Spec PyProof.Rows
/-! ### an instance, its attributes a map -/
structure ObjM (h : Heap) (x dx C : Addr) (mA : Str → Option Value) : Prop where
  obj : h.get? x = some (PySem.W.instObj C dx)
  ns : h.Ns1 dx mA
  ne : dx ≠ x
theorem lookIn_ns {h : Heap} {dx : Addr} {mA : Str → Option Value} (n : h.Ns1 dx mA) : ∃ od, h.get? dx = some od ∧ ∀ name, PySem.W.lookIn name od = some (mA name) := by
  obtain ⟨o, es, ep, ho, hd, hk, _, hm⟩ := n
  refine ⟨o, ho, fun name => ?_⟩
  have e := hm name
  unfold nsFind findBy at e
  rw [← Array.find?_toList] at e
  unfold PySem.W.lookIn
  rw [hd]
  dsimp only
  split
  · rename_i y q
    rw [q] at e
    exact congrArg some e
  · rename_i q
    rw [q] at e
    have a : es.toList.any (·.refKey) = false := by
      rw [List.any_eq_false]
      intro y hy
      obtain ⟨z, t, hkey⟩ := hk y (Array.mem_toList_iff.mp hy)
      simp [DictEntry.refKey, hkey]
    have a' : ¬ es.toList.any (·.refKey) = true := by rw [a]; exact Bool.false_ne_true
    rw [if_neg a']
    exact congrArg some e
theorem ObjM.look {h : Heap} {x dx C : Addr} {mA : Str → Option Value} (I : ObjM h x dx C mA) : ∃ od, PySem.W.InstAt h x (PySem.W.instObj C dx) C (some od) ∧ ∀ name, PySem.W.lookIn name od = some (mA name) :=
  let ⟨od, ho, hl⟩ := lookIn_ns I.ns
  ⟨od, ⟨I.obj, rfl, rfl, ho⟩, hl⟩
section
variable {prog : Program} {w : World} {A : Around} {E : Value → Shared → Prop} {s : Shared} {K : PySem.W.Frag} {x dx C f : Addr} {mA : Str → Option Value} {name : Str} {v : Value}
theorem get_map {expr : Bool} {Q : Value → Shared → Prop} (X : K.In s.heap) (I : ObjM s.heap x dx C mA) (hg : PySem.W.plainGet K C name = true) (hh : PySem.W.hasDictIn K C = true)
    (ha : PySem.W.findIn K (.ref C) name = some none) (hv : mA name = some v) (hv' : PySem.W.handedIn v = true) (h : Q v { s with toks := s.toks + 1 }) :
    wpAny (model prog w) A (getAttr (.ref x) name expr) Q E s := by
  obtain ⟨od, J, hl⟩ := I.look
  exact PySem.W.get_value X J (PySem.W.plainGet_of hg).1 (PySem.W.findObj_own hh ha rfl (by rw [hl, hv])) hv' h
theorem set_map {ns : List Str} {Q : Unit → Shared → Prop} (X : K.In s.heap) (I : ObjM s.heap x dx C mA)
    (hs : PySem.W.findIn K (.ref C) "__setattr__" = some (some (.builtin "object.__setattr__"))) (hp : PySem.W.plainOver K C = true) (ht : PySem.W.takerIn K C name = some none) (hh : PySem.W.hasDictIn K C = true)
    (hw : PySem.Within mA ns) (hsz : ns.length ≤ sizeLine)
    (h : ∀ h', ObjM h' x dx C (fun y => if y = name then some v else mA y) → Heap.SameBut dx s.heap h' → Q () { s with heap := h', toks := s.toks + 2 }) :
    wpAny (model prog w) A (setAttr (.ref x) name v) Q E s := by
  obtain ⟨od, J, hl⟩ := I.look
  refine PySem.W.set_plain X J hs (PySem.W.osa_open (s := { s with toks := s.toks + 1 }) (r := none) X J hp ht fun b => ?_)
  obtain ⟨cd, hc, hd'⟩ := PySem.W.any_some hh
  have hx : s.heap.get? x = some ⟨.ref C, some dx, .plain, #[]⟩ := I.obj
  refine wpAny_bind (wpAny_pure (wpAny_bind (wpAny_bind (wpAny_loadPart hx (wpAny_bind (PySem.W.Looks.here (s := { s with toks := s.toks + 1 }) (PySem.W.looks_clsIn X hc) ?_))))))
  rw [hd']
  refine wpAny_pure (a := some dx) (wpAny_bind (wpAny_pure (wpAny_bind ?_)))
  refine wpAny_nsSet1 (s := { s with toks := s.toks + 1 }) I.ns fun h' hn2 hs2 => ?_
  obtain ⟨oD, esD, epD, hoD, hdD, hcD⟩ := hn2.count (PySem.Within.cons name v hw)
  refine wpAny_bind (wpAny_lookBehind hoD (by rw [hdD]; exact pastItsLine_dict (Nat.le_trans hcD (by rw [List.length_cons]; omega))) ?_)
  exact wpAny_pure (h _ ⟨(hs2.2 _ (Ne.symm I.ne)).trans I.obj, hn2, I.ne⟩ hs2)
theorem make_map {R : Result → Shared → Prop} {vs : List Value} {kw : List (Str × Value)} (X : K.In s.heap) (hm : PySem.W.makesIn K C = true)
    (hi : PySem.W.findIn K (.ref C) "__init__" = some (some (.ref f))) (hf : PySem.W.typeIn K (.ref f) = some (.type "function"))
    (h : codeAny (model prog w) (A.under (.builtin "type.__call__" ⟨.ref C :: vs, kw⟩)) (.call (.ref f) ⟨.ref (s.heap.objs.size + 1) :: vs, kw⟩) (PySem.W.InitBack (s.heap.objs.size + 1) R)
      { s with heap := (s.heap.push PySem.W.emptyDict).push (PySem.W.instObj C s.heap.objs.size) }) :
    codeAny (model prog w) A (.call (.ref C) ⟨vs, kw⟩) R s := by
  obtain ⟨hh, g, d, t, os⟩ := s
  exact PySem.W.make_core (PySem.W.makes_of X hm) (PySem.W.looks_findIn X hi) (fun self => PySem.W.bind_fn X self hf) (.inl rfl) h
end
/-! ### the attributes as a list of pairs -/
def putF (f : Str) (v : V) : List (Str × V) → List (Str × V)
  | [] => [(f, v)]
  | (g, x) :: r => if g = f then (g, v) :: r else (g, x) :: putF f v r
theorem lookup_putF (f g : Str) (v : V) : ∀ fs : List (Str × V), (putF f v fs).lookup g = if g = f then some v else fs.lookup g
  | [] => by
    show List.lookup g [(f, v)] = _
    by_cases h : g = f
    · have hb : (g == f) = true := beq_iff_eq.mpr h
      simp only [List.lookup, hb, if_pos h]
    · have hb : (g == f) = false := beq_eq_false_iff_ne.mpr h
      simp only [List.lookup, hb, if_neg h]
  | (k, x) :: r => by
    have ih := lookup_putF f g v r
    rw [show putF f v ((k, x) :: r) = (if k = f then (k, v) :: r else (k, x) :: putF f v r) from rfl]
    by_cases hk : k = f
    · rw [if_pos hk]
      by_cases h : g = k
      · have hb : (g == k) = true := beq_iff_eq.mpr h
        simp only [List.lookup, hb, if_pos (h.trans hk)]
      · have hb : (g == k) = false := beq_eq_false_iff_ne.mpr h
        simp only [List.lookup, hb, if_neg (fun e : g = f => h (e.trans hk.symm))]
    · rw [if_neg hk]
      by_cases h : g = k
      · have hb : (g == k) = true := beq_iff_eq.mpr h
        simp only [List.lookup, hb, if_neg (fun e : g = f => hk (h.symm.trans e))]
      · have hb : (g == k) = false := beq_eq_false_iff_ne.mpr h
        simp only [List.lookup, hb]
        exact ih
theorem keys_putF (f : Str) (v : V) : ∀ fs : List (Str × V), f ∈ (putF f v fs).map (·.1) ∧ ∀ g, g ∈ fs.map (·.1) → g ∈ (putF f v fs).map (·.1)
  | [] => ⟨by simp [putF], fun g h => by simp at h⟩
  | (k, x) :: r => by
    obtain ⟨i1, i2⟩ := keys_putF f v r
    rw [show putF f v ((k, x) :: r) = (if k = f then (k, v) :: r else (k, x) :: putF f v r) from rfl]
    by_cases hk : k = f
    · rw [if_pos hk]
      subst hk
      exact ⟨by simp, fun g h => by simpa using h⟩
    · rw [if_neg hk]
      refine ⟨?_, fun g h => ?_⟩
      · rw [List.map_cons]
        exact List.mem_cons_of_mem _ i1
      · rw [List.map_cons] at h ⊢
        rcases List.mem_cons.mp h with e | e
        · exact List.mem_cons.mpr (.inl e)
        · exact List.mem_cons_of_mem _ (i2 g e)
theorem length_putF (f : Str) (v : V) : ∀ fs : List (Str × V), (putF f v fs).length ≤ fs.length + 1
  | [] => by simp [putF]
  | (k, x) :: r => by
    have ih := length_putF f v r
    rw [show putF f v ((k, x) :: r) = (if k = f then (k, v) :: r else (k, x) :: putF f v r) from rfl]
    by_cases hk : k = f
    · rw [if_pos hk, List.length_cons, List.length_cons]; omega
    · rw [if_neg hk, List.length_cons, List.length_cons]; omega
theorem RelO.some_of {v : V} {o : Option Value} (r : RelO (some v) o) : ∃ u, o = some u ∧ RelV v u := by
  cases o with
  | none => exact (show False from r).elim
  | some u => exact ⟨u, rfl, r⟩
theorem handed_of {v : V} {u : Value} (r : RelV v u) : PySem.W.handedIn u = true := by
  cases v with
  | non => cases (show u = Value.none from r); rfl
  | bl b => cases (show u = Value.bool b from r); rfl
  | int i => obtain ⟨t, e⟩ := (show ∃ t, u = Value.int i t from r); cases e; rfl
  | str x => obtain ⟨t, e⟩ := (show ∃ t, u = Value.str x t from r); cases e; rfl
  | byt b => obtain ⟨t, e⟩ := (show ∃ t, u = Value.bytes b t from r); cases e; rfl
  | flt b => obtain ⟨t, e⟩ := (show ∃ t, u = Value.float b t from r); cases e; rfl
  | ref a => cases (show u = Value.ref a from r); rfl
  | ty n => cases (show u = Value.type n from r); rfl
section
variable {P : Program} {w : World} {H H' : Hp} {h h' : Heap} {a C dx : Addr} {fs fs' : List (Str × V)}
theorem ins_get (hok : HOk P w H h) (e : H a = some (.ins C dx fs)) : ∃ mA, ObjM h a dx C mA ∧ (∀ f, RelO (fs.lookup f) (mA f)) ∧ PySem.Within mA (fs.map (·.1)) ∧ fs.length ≤ 1000 ∧ H dx = some (.own a) := by
  obtain ⟨d, z, ne, ob, mA, n, r, q⟩ := (show ObjOk P w H h a (.ins C dx fs) from hok a _ e)
  exact ⟨mA, ⟨ob, n, ne⟩, r, q, z, d⟩
end
/-! ### what of the text a class must have -/
structure Cls (K : PySem.W.Frag) (C : Addr) : Prop where
  pg : PySem.W.plainGet K C Str.empty = true
  hd : PySem.W.hasDictIn K C = true
  po : PySem.W.plainOver K C = true
  sa : PySem.W.findIn K (.ref C) "__setattr__" = some (some (.builtin "object.__setattr__"))
theorem Cls.get {K : PySem.W.Frag} {C : Addr} (c : Cls K C) (f : Str) : PySem.W.plainGet K C f = true := c.pg
def NoAttr (K : PySem.W.Frag) (C : Addr) (f : Str) : Prop := PySem.W.findIn K (.ref C) f = some none
theorem NoAttr.taker {K : PySem.W.Frag} {C : Addr} {f : Str} (n : NoAttr K C f) : PySem.W.takerIn K C f = some none := by
  unfold PySem.W.takerIn
  rw [show PySem.W.findIn K (.ref C) f = some none from n]
  rfl
section
variable {X : Cx} {pins : List (Addr × Obj)} {σ : St} {H : Hp} {s : Shared} {a C dx : Addr} {fs : List (Str × V)} {f : Str} {v : V} {A : Around} {E : Value → Shared → Prop}
theorem getattr_ok {b : Bool} {Q : Value → Shared → Prop} (I : Inv X pins σ H s) (e : H a = some (.ins C dx fs)) (c : Cls X.K C) (n : NoAttr X.K C f) (l : fs.lookup f = some v)
    (h : ∀ u s', Inv X pins σ H s' → RelV v u → Q u s') : wpAny (model X.prog X.w) A (getAttr (.ref a) f b) Q E s := by
  obtain ⟨mA, O, r, _, _, _⟩ := ins_get I.hok e
  obtain ⟨u, hu, ru⟩ := RelO.some_of (v := v) (o := mA f) (by rw [← l]; exact r f)
  exact get_map I.kIn O (c.get f) c.hd n hu (handed_of ru) (h u _ (I.tok _) ru)
theorem setattr_ok {y : V} {u : Value} {Q : Unit → Shared → Prop} (I : Inv X pins σ H s) (e : H a = some (.ins C dx fs)) (c : Cls X.K C) (n : NoAttr X.K C f) (hl : fs.length < 1000) (ry : RelV y u)
    (h : ∀ s', Inv X pins σ (upd H a (.ins C dx (putF f y fs))) s' → Q () s') : wpAny (model X.prog X.w) A (setAttr (.ref a) f u) Q E s := by
  obtain ⟨mA, O, r, wi, _, ho⟩ := ins_get I.hok e
  have hz : (fs.map (·.1)).length ≤ sizeLine := by rw [List.length_map, sizeLine_eq]; omega
  refine set_map I.kIn O c.sa c.po n.taker c.hd wi hz fun h' O' sb => h _ ?_
  have hd : ∃ o, h'.get? dx = some o := let ⟨o, _, _, e', _⟩ := O'.ns; ⟨o, e'⟩
  refine I.write (x := a) (e := dx) (by rw [e]; exact True.intro) (.inr ho) (fun b q hb z => (sb.2 b hb).trans z) hd ?_
  refine ⟨by rw [upd_ne O.ne]; exact ho, ?_, O.ne, O'.obj, _, O'.ns, fun g => ?_, fun g hg => ?_⟩
  · have := length_putF f y fs; omega
  · show RelO ((putF f y fs).lookup g) (if g = f then some u else mA g)
    rw [lookup_putF]
    by_cases q : g = f
    · rw [if_pos q, if_pos q]; exact ry
    · rw [if_neg q, if_neg q]; exact r g
  · by_cases q : g = f
    · rw [q]; exact (keys_putF f y fs).1
    · refine (keys_putF f y fs).2 g (wi g fun z => hg ?_)
      show (if g = f then some u else mA g) = none
      rw [if_neg q]; exact z
theorem Inv.made (I : Inv X pins σ H s) : Inv X pins σ (upd (upd H s.heap.objs.size (.own (s.heap.objs.size + 1))) (s.heap.objs.size + 1) (.ins C s.heap.objs.size []))
    { s with heap := (s.heap.push PySem.W.emptyDict).push (PySem.W.instObj C s.heap.objs.size) } := by
  have e1 : (s.heap.push PySem.W.emptyDict).get? s.heap.objs.size = some PySem.W.emptyDict := Heap.get?_push_size s.heap rfl
  have e2 : ((s.heap.push PySem.W.emptyDict).push (PySem.W.instObj C s.heap.objs.size)).get? (s.heap.objs.size + 1) = some (PySem.W.instObj C s.heap.objs.size) := by
    have := Heap.get?_push_size (s.heap.push PySem.W.emptyDict) (o := PySem.W.instObj C s.heap.objs.size) rfl
    rwa [Heap.size_push] at this
  have e3 : (s.heap.push PySem.W.emptyDict).Ns s.heap.objs.size (fun _ => none) := ⟨PySem.W.emptyDict, #[], _, e1, rfl, (fun e he => absurd he (by simp)), fun _ => rfl⟩
  have I1 := I.laid (a := s.heap.objs.size) (o := .own (s.heap.objs.size + 1)) (h' := s.heap.push PySem.W.emptyDict) (t' := s.toks) (fun b u q => Heap.get?_push_of_some _ q) (Nat.le_refl _) ⟨_, e1⟩
  refine I1.laid (a := s.heap.objs.size + 1) (o := .ins C s.heap.objs.size []) (t' := s.toks) (fun b u q => Heap.get?_push_of_some _ q) (Nat.le_of_eq (Heap.size_push _ _)) ?_
  have ne : s.heap.objs.size ≠ s.heap.objs.size + 1 := Nat.ne_of_lt (Nat.lt_succ_self _)
  refine ⟨by rw [upd_ne ne, upd_same], Nat.zero_le _, ne, e2, fun _ => none, (Heap.Ns1.of_empty e3).at fun o q => Heap.get?_push_of_some _ q, fun _ => True.intro, fun y hy => absurd rfl hy⟩
theorem attr_of {prog : Program} {w : World} {env : Env} {e : Expr} {f : Str} {pos : Pos} {s : Shared} {Q : Value → Shared → Prop} (hb : attributeBase e f env (eval e env) = eval e env)
    (h : wpAny (model prog w) A (eval e env) (fun o s₁ => wpAny (model prog w) A (getAttr o f true) Q E s₁) E s) : wpAny (model prog w) A (eval (.Attribute e f pos) env) Q E s :=
  Attribute_any_ h (by rw [arm_eval_Attribute, hb])
end
/-! ### readings and rules -/
def tFld (K : PySem.W.Frag) (ta : TE) (f : Str) : TE := fun σ H Q => ta σ H fun x H1 => ∃ a C dx fs v, x = .ref a ∧ H1 a = some (.ins C dx fs) ∧ Cls K C ∧ NoAttr K C f ∧ fs.lookup f = some v ∧ Q v H1
def sFld (K : PySem.W.Frag) (ta tv : TE) (f : Str) : TS := fun D σ H => tv σ H fun y H1 => ta σ H1 fun x H2 => ∃ a C dx fs, x = .ref a ∧ H2 a = some (.ins C dx fs) ∧ Cls K C ∧ NoAttr K C f ∧ fs.length < 1000 ∧
  D.nx σ (upd H2 a (.ins C dx (putF f y fs)))
section
variable {X : Cx} {o e value : Expr} {f : Str} {pos pos' tpos : Pos} {ta tv : TE}
theorem pe_fld (he : PE X e ta) (hb : attributeBase e f X.env (eval e X.env) = eval e X.env) : PE X (.Attribute e f pos) (tFld X.K ta f) := by
  intro pins s σ H Q I h
  refine attr_of hb (thn (he pins s σ H _ I h) fun u s1 ⟨x, H1, I1, rx, a, C, dx, fs, v, ex, ea, c, n, l, q⟩ => ?_)
  subst ex
  obtain rfl : u = Value.ref a := rx
  exact getattr_ok I1 ea c n l fun u' s2 I2 ru => ⟨v, H1, I2, ru, q⟩
theorem ps_fld (ha : PE X o ta) (hv : PE X value tv) (hs : swapsWith value (some (.Attribute o f pos')) pos.line X.env = pure false) : PS X (.Assign [.Attribute o f pos'] value pos) (sFld X.K ta tv f) := by
  intro pins s σ H D I h
  refine plainObj_wpAny_Assign_Attribute (thn (hv pins s σ H _ I h) fun u s1 ⟨y, H1, I1, ry, q⟩ => thn (ha pins s1 σ H1 _ I1 q) fun ov s2 ⟨x, H2, I2, rx, a, C, dx, fs, ex, ea, c, n, l, q2⟩ => ?_) hs
  subst ex
  obtain rfl : ov = Value.ref a := rx
  exact setattr_ok I2 ea c n l ry fun s3 I3 => ⟨σ, _, I3, q2⟩
end
section
variable {X : Cx} {pins : List (Addr × Obj)} {σ : St} {H : Hp} {s : Shared} {A : Around} {E : Value → Shared → Prop} {Q : Value → Shared → Prop} {c : Value} {b : Bool}
inductive TyOf (K : PySem.W.Frag) (H : Hp) : V → Value → Prop where
  | non : TyOf K H .non (.type "NoneType")
  | bl (x : Bool) : TyOf K H (.bl x) (.type "bool")
  | int (i : Int) : TyOf K H (.int i) (.type "int")
  | str (x : Str) : TyOf K H (.str x) (.type "str")
  | flt (x : UInt64) : TyOf K H (.flt x) (.type "float")
  | lst {a : Addr} {xs : List V} (e : H a = some (.lst xs)) : TyOf K H (.ref a) (.type "list")
  | frz {a : Addr} {o : Obj} {xs : List V} (e : H a = some (.frz o (.lst xs))) : TyOf K H (.ref a) (.type "list")
  | tup {a : Addr} {xs : List V} (e : H a = some (.tup xs)) : TyOf K H (.ref a) (.type "tuple")
  | dK {a : Addr} {kvs : List (Key × V)} (e : H a = some (.dK kvs)) : TyOf K H (.ref a) (.type "dict")
  | dT {a : Addr} {kvs : List (List Key × V)} (e : H a = some (.dT kvs)) : TyOf K H (.ref a) (.type "dict")
  | ins {a C dx : Addr} {fs : List (Str × V)} (e : H a = some (.ins C dx fs)) (cl : Cls K C) (ha : PySem.W.findIn K (.ref C) "__class__" = some (some (.builtin "object.__class__")))
      (hn : PySem.W.specialIn K (.builtin "object.__class__") "__get__" = some (some (.builtin "getset_descriptor.__get__"))) (htk : PySem.W.takesIn K (.builtin "object.__class__") = some true)
      (hm : PySem.W.mroIn K C (.type "object") = some true) : TyOf K H (.ref a) (.ref C)
theorem isinst_ok {x : V} {u t : Value} (I : Inv X pins σ H s) (rx : RelV x u) (ty : TyOf X.K H x t) (e : PySem.W.kitOne X.K t c = some b) (h : ∀ tk, Q (.bool b) { s with toks := tk }) :
    wpAny (model X.prog X.w) A (call (.builtin "isinstance") [u, c]) Q E s := by
  cases ty with
  | non => cases (show u = Value.none from rx); exact PySem.W.kia_one PySem.W.kitx_none I.kIn True.intro e (fun z => nomatch z) h
  | bl y => cases (show u = Value.bool y from rx); exact PySem.W.kia_one PySem.W.kitx_bool I.kIn True.intro e (fun z => nomatch z) h
  | int i => obtain ⟨t, q⟩ := (show ∃ t, u = Value.int i t from rx); cases q; exact PySem.W.kia_one PySem.W.kitx_int I.kIn True.intro e (fun z => nomatch z) h
  | str y => obtain ⟨t, q⟩ := (show ∃ t, u = Value.str y t from rx); cases q; exact PySem.W.kia_one PySem.W.kitx_str I.kIn True.intro e (fun z => nomatch z) h
  | flt y => obtain ⟨t, q⟩ := (show ∃ t, u = Value.float y t from rx); cases q; exact PySem.W.kia_one PySem.W.kitx_float I.kIn True.intro e (fun z => nomatch z) h
  | @lst a xs ea =>
    cases (show u = Value.ref a from rx)
    obtain ⟨_, _, n, _, h1⟩ := (show ObjOk X.prog X.w H s.heap a (.lst xs) from I.hok a _ ea)
    exact PySem.W.kia_one PySem.W.kitx_list I.kIn ⟨_, h1, rfl⟩ e (fun z => nomatch z) h
  | @frz a ob xs ea =>
    cases (show u = Value.ref a from rx)
    obtain ⟨_, _, _, n, _, h1⟩ := (show ObjOk X.prog X.w H s.heap a (.frz ob (.lst xs)) from I.hok a _ ea)
    exact PySem.W.kia_one PySem.W.kitx_list I.kIn ⟨_, h1, rfl⟩ e (fun z => nomatch z) h
  | @tup a xs ea =>
    cases (show u = Value.ref a from rx)
    obtain ⟨_, _, _, p⟩ := (show ObjOk X.prog X.w H s.heap a (.tup xs) from I.hok a _ ea)
    obtain ⟨o, h1, h2, _⟩ := p
    exact PySem.W.kia_one PySem.W.kitx_tuple I.kIn ⟨o, h1, h2⟩ e (fun z => nomatch z) h
  | @dK a kvs ea =>
    cases (show u = Value.ref a from rx)
    obtain ⟨_, _, vs, _, p⟩ := (show ObjOk X.prog X.w H s.heap a (.dK kvs) from I.hok a _ ea)
    obtain ⟨o, es, ep, h1, h2, _⟩ := p
    exact PySem.W.kia_one PySem.W.kitx_dict I.kIn ⟨o, h1, h2.1⟩ e (fun z => nomatch z) h
  | @dT a kvs ea =>
    cases (show u = Value.ref a from rx)
    obtain ⟨_, _, xs, _, o, es, ep, h1, h2, _⟩ := (show ObjOk X.prog X.w H s.heap a (.dT kvs) from I.hok a _ ea)
    exact PySem.W.kia_one PySem.W.kitx_dict I.kIn ⟨o, h1, h2.1⟩ e (fun z => nomatch z) h
  | @ins a C dx fs ea cl ha hn htk hm =>
    cases (show u = Value.ref a from rx)
    obtain ⟨mA, O, _⟩ := ins_get I.hok ea
    obtain ⟨od, J, _⟩ := O.look
    exact PySem.W.kia_one (PySem.W.kitx_own (cl.get _) cl.hd ha hn htk hm) I.kIn J e (fun z => nomatch z) h
end
end L2
namespace L2
open PySem PySem.Spec PyProof.Rows
/-! ### room -/
structure Room (k : Nat) (A : Around) : Prop where
  hd : A.handled = none
  dp : A.depth + 3 * k + 5 < recursionLimit
  un : A.units + 16 * k + 200 < cLine
theorem Room.mono {j k : Nat} {A : Around} (r : Room k A) (h : j ≤ k) : Room j A := ⟨r.hd, by have := r.dp; omega, by have := r.un; omega⟩
theorem Room.deeper {k : Nat} {A : Around} (r : Room (k + 1) A) (env : Env) : Room k (A.deeper env) :=
  ⟨r.hd, by have := r.dp; show A.depth + 1 + 3 * k + 5 < _; omega, by have := r.un; show A.units + 3 + 16 * k + 200 < _; omega⟩
theorem make_depth {A : Around} {C : Addr} {us : List Value} {kw : List (Str × Value)} : (A.under (.builtin "type.__call__" ⟨.ref C :: us, kw⟩)).depth = A.depth + 1 := by
  first | rfl | simp [Around.under, Code.weight, Code.isCreation, Code.isGuard, Code.isCaller, Code.frames, Code.isFrame, guardIds]
theorem make_units {A : Around} {C : Addr} {us : List Value} {kw : List (Str × Value)} : (A.under (.builtin "type.__call__" ⟨.ref C :: us, kw⟩)).units = A.units + 1 := by
  first | rfl | simp [Around.under, Code.cUnits, Code.frames, Code.isFrame]
theorem Room.make {k : Nat} {A : Around} (r : Room (k + 1) A) (C : Addr) (us : List Value) (kw : List (Str × Value)) : Room k (A.under (.builtin "type.__call__" ⟨.ref C :: us, kw⟩)) :=
  ⟨r.hd, by have := r.dp; rw [make_depth]; omega, by have := r.un; rw [make_units]; omega⟩
theorem Room.depth {k : Nat} {A : Around} (r : Room k A) : A.depth < recursionLimit := by have := r.dp; omega
theorem Room.units {k : Nat} {A : Around} (r : Room k A) : A.units + 64 < cLine := by have := r.un; omega
/-! ### argument lists and displays -/
def tNil : TA := fun _ H Q => Q [] H
def tCons (ta : TE) (tr : TA) : TA := fun σ H Q => ta σ H fun x H1 => tr σ H1 fun xs H2 => Q (x :: xs) H2
section
variable {X : Cx} {e : Expr} {es : List Expr} {te : TE} {t : TA} {pos : Pos}
theorem pa_nil : PA X [] tNil := fun _ _ _ _ H Q I h => Calls.spliced_nil ⟨[], H, I, .nil, h⟩
theorem pa_cons (ha : PE X e te) (hr : PA X es t) (hs : starEach (e :: es) X.env = (false, eval e X.env) :: starEach es X.env := by rfl) : PA X (e :: es) (tCons te t) := by
  intro pos pins s σ H Q I h
  rw [hs]
  show wpAny _ _ (spliced ((false, eval e X.env) :: backTo pos (starEach es X.env))) _ _ s
  refine Calls.spliced_cons (thn (ha pins s σ H _ I h) fun u s1 ⟨x, H1, I1, r1, q1⟩ => ?_)
  exact thn (hr pos pins s1 σ H1 _ I1 q1) fun us s2 ⟨xs, H2, I2, r2, q2⟩ => ⟨x :: xs, H2, I2, .cons r1 r2, q2⟩
def tTup (t : TA) : TE := fun σ H Q => t σ H fun xs H1 => xs.length ≤ sizeLine ∧ ∀ p, H1 p = none → Q (.ref p) (upd H1 p (.tup xs))
def tLst (t : TA) : TE := fun σ H Q => t σ H fun xs H1 => xs.length ≤ sizeLine ∧ ∀ p, H1 p = none → Q (.ref p) (upd H1 p (.lst xs))
theorem pe_tup {x1} (h : PA X es t) : PE X (.Tuple es x1 pos) (tTup t) := by
  intro pins s σ H Q I hq
  refine wpAny_Tuple_spliced (thn (h pos pins s σ H _ I hq) fun us s1 ⟨xs, H1, I1, r, z, q⟩ => ⟨by rw [← r.length]; exact z, ?_⟩)
  have hf : H1 s1.heap.objs.size = none := I1.hok.fresh (Nat.le_refl _)
  refine ⟨.ref s1.heap.objs.size, upd H1 s1.heap.objs.size (.tup xs), I1.laid (t' := s1.toks) (fun b u e => Heap.get?_push_of_some _ e) (Nat.le_refl _) ?_, rfl, q _ hf⟩
  exact ⟨z, us, r, ⟨_, Heap.get?_push_size _ rfl, rfl, _, rfl⟩⟩
theorem pe_lst (h : PA X es t) : PE X (.List es pos) (tLst t) := by
  intro pins s σ H Q I hq
  refine wpAny_List_spliced (thn (h pos pins s σ H _ I hq) fun us s1 ⟨xs, H1, I1, r, z, q⟩ => ⟨by rw [← r.length]; exact z, ?_⟩)
  have hf : H1 s1.heap.objs.size = none := I1.hok.fresh (Nat.le_refl _)
  refine ⟨.ref s1.heap.objs.size, upd H1 s1.heap.objs.size (.lst xs), I1.laid (t' := s1.toks) (fun b u e => Heap.get?_push_of_some _ e) (Nat.le_refl _) ?_, rfl, q _ hf⟩
  exact ⟨z, us, 0, r, Heap.get?_push_size _ rfl⟩
end
/-! ### what a def promises -/
abbrev Sp := List V → Hp → VK → XK → Prop
abbrev CXT := List Env → Hp → Shared → XK → Value → Shared → Prop
structure Env0 (P : Program) (w : World) (K : PySem.W.Frag) (mg : Str → Option Value) (base : Heap) (A : Around) (outer : List Env) (s : Shared) (H : Hp) : Prop where
  frames : A.frames = some outer
  mod : Mod K mg base
  bs : ∀ b o, base.get? b = some o → s.heap.get? b = some o ∧ H b = none
  bsz : base.objs.size ≤ s.heap.objs.size
  funs : s.heap.FunFrames base outer
  frf : ∀ b ∈ frs outer, H b = none
  hok : HOk P w H s.heap
  bare : AllBare s.gens
  tk : TokB mg s.toks
def CE (outer : List Env) (P : Program) (w : World) (H : Hp) (s : Shared) (Q : VK) (u : Value) (s' : Shared) : Prop :=
  ∃ v H', s'.os = s.os ∧ AllBare s'.gens ∧ Un (frs outer) [] H H' s.heap s'.heap ∧ HOk P w H' s'.heap ∧ RelV v u ∧ s.toks ≤ s'.toks ∧ Q v H'
def CR (CX : CXT) (outer : List Env) (P : Program) (w : World) (H : Hp) (s : Shared) (Q : VK) (E : XK) (r : Result) (s' : Shared) : Prop :=
  match r with
  | .ok (.ret u) => CE outer P w H s Q u s'
  | .ok _ => False
  | .error e => CX outer H s E e s'
structure FnOk (P : Program) (w : World) (K : PySem.W.Frag) (mg : Str → Option Value) (base : Heap) (CX : CXT) (k : Nat) (f : Addr) (fd : FuncData) (ps : List Str) (sp : Sp) : Prop where
  len : ∀ vs H Q E, sp vs H Q E → vs.length = ps.length
  run : ∀ (A : Around) (outer : List Env) (s : Shared) (H : Hp) (args : Args) (us : List Value) (vs : List V) (Q : VK) (E : XK), Room k A → Env0 P w K mg base A outer s H → BindsTo s fd args (ps.zip us) → Vals vs us → sp vs H Q E →
    codeAny (model P w) A (.call (.ref f) args) (CR CX outer P w H s Q E) s
theorem Env0.make {P : Program} {w : World} {K : PySem.W.Frag} {mg : Str → Option Value} {base : Heap} {A : Around} {outer : List Env} {s : Shared} {H : Hp} (e : Env0 P w K mg base A outer s H) (C : Addr) (us : List Value) (kw : List (Str × Value)) :
    Env0 P w K mg base (A.under (.builtin "type.__call__" ⟨.ref C :: us, kw⟩)) outer s H := ⟨by first | exact e.frames | (simpa [Around.under, Code.envs, Code.isFrame, pushEnvs] using e.frames), e.mod, e.bs, e.bsz, e.funs, e.frf, e.hok, e.bare, e.tk⟩
section
variable {X : Cx} {pins : List (Addr × Obj)} {σ : St} {H : Hp} {s s' : Shared}
theorem Inv.env0 (I : Inv X pins σ H s) : Env0 X.prog X.w X.K X.mg X.base X.A X.stack s H :=
  ⟨I.ok.frames, I.ok.mod, I.bs, Nat.le_trans I.ok.bsz I.sz, I.stack, I.stkFree, I.hok, I.bare, I.tk⟩
theorem Inv.after {Q : VK} {u : Value} (I : Inv X pins σ H s) (h : CE X.stack X.prog X.w H s Q u s') : EP X pins σ Q u s' := by
  obtain ⟨v, H', os, bare, un, hok, r, tt, q⟩ := h
  obtain ⟨hh, g, d, t, os'⟩ := s'
  obtain rfl : os' = s.os := os
  exact ⟨v, H', I.call (h' := hh) (g' := g) (d' := d) (t' := t) (ch := []) un hok bare (fun b z => absurd z (by simp)) (Nat.le_trans I.up tt), r, q⟩
end
/-! ### calls -/
def tCall (sp : Sp) (dvs : List V) (E : XK) (t : TA) : TE := fun σ H Q => t σ H fun vs H1 => sp (vs ++ dvs) H1 Q E
def tMake (C : Addr) (sp : Sp) (dvs : List V) (E : XK) (t : TA) : TE := fun σ H Q => t σ H fun vs H1 => ∀ x dx, H1 x = none → H1 dx = none → dx ≠ x →
  sp (.ref x :: (vs ++ dvs)) (upd (upd H1 dx (.own x)) x (.ins C dx [])) (fun v H2 => v = .non ∧ Q (.ref x) H2) E
def Binds (K : PySem.W.Frag) (fd : FuncData) (ps : List Str) (ds : List Value) : Prop :=
  ∀ (s : Shared) (us : List Value), K.In s.heap → (us ++ ds).length = ps.length → BindsTo s fd ⟨us, []⟩ (ps.zip (us ++ ds))
theorem Binds.all {K : PySem.W.Frag} {fd : FuncData} {ps : List Str} (h : ∀ us : List Value, us.length = ps.length → bindArgs fd ⟨us, []⟩ = pure (ps.zip us)) : Binds K fd ps [] := fun s us _ hl => by
  rw [List.append_nil] at hl ⊢
  exact .of_eq (h us hl)
def Passes (CX : CXT) (X : Cx) (E : XK) : Prop := ∀ (pins : List (Addr × Obj)) (σ : St) (H : Hp) (s : Shared) (e : Value) (s' : Shared), Inv X pins σ H s → CX X.stack H s E e s' → X.xe e s'
section
variable {X : Cx} {CX : CXT} {k : Nat} {f C : Addr} {fd : FuncData} {ps : List Str} {sp : Sp} {dvs : List V} {ds : List Value} {E : XK} {x m : Str} {p pos apos : Pos} {e o : Expr} {es : List Expr} {ta : TE} {t : TA}
theorem run_fn {pins : List (Addr × Obj)} {σ : St} {H : Hp} {s : Shared} {Q : VK} {us : List Value} {vs : List V} (F : FnOk X.prog X.w X.K X.mg X.base CX k f fd ps sp) (hr : Room k X.A) (hb : Binds X.K fd ps ds) (hd : Vals dvs ds) (hx : Passes CX X E)
    (I : Inv X pins σ H s) (r : Vals vs us) (h : sp (vs ++ dvs) H Q E) : wpAny (model X.prog X.w) X.A (call (.ref f) us) (EP X pins σ Q) X.xe s := by
  have r2 : Vals (vs ++ dvs) (us ++ ds) := r.append hd
  have hl : (us ++ ds).length = ps.length := by rw [← r2.length]; exact F.len _ _ _ _ h
  refine wpAny_call (codeAny_mono (F.run X.A X.stack s H ⟨us, []⟩ (us ++ ds) (vs ++ dvs) Q E hr I.env0 (hb s us I.kIn hl) r2 h) fun r s' hq => ?_)
  cases r with
  | error e => exact hx pins σ H s e s' I hq
  | ok fl =>
    cases fl with
    | ret u => exact I.after hq
    | next => exact False.elim hq
    | brk => exact False.elim hq
    | cont => exact False.elim hq
theorem pe_call (F : FnOk X.prog X.w X.K X.mg X.base CX k f fd ps sp) (hr : Room k X.A) (hg : Gl X x) (hm : X.mg x = some (.ref f)) (hk : PySem.W.keepIn X.K (.ref f) = true) (hb : Binds X.K fd ps ds) (hd : Vals dvs ds) (hx : Passes CX X E)
    (ha : PA X (e :: es) t) (hdb : (x == ("__debug__" : Str)) = false := by decide) (he : starEach (e :: es) X.env = (false, eval e X.env) :: starEach es X.env := by rfl) (hpl : (backTo pos (starEach es X.env)).any (·.1) = false := by rfl) :
    PE X (.Call (.Name x p) (e :: es) [] pos) (tCall sp dvs E t) := by
  intro pins s σ H Q I h
  refine wpAny_Call_Name_kw (ld_glob I hg hm ?_ hdb)
  refine PySem.W.callWith_K (h₀ := X.base) I.ok.mod.kin hk (thn (ha pos pins s σ H _ I h) fun us s1 ⟨vs, H1, I1, r, q⟩ => ⟨I1.kIn, ?_⟩) he hpl
  exact run_fn F hr hb hd hx I1 r q
structure Mk (K : PySem.W.Frag) (C f : Addr) : Prop where
  makes : PySem.W.makesIn K C = true
  init : PySem.W.findIn K (.ref C) "__init__" = some (some (.ref f))
  fn : PySem.W.isFn K (.ref f) = true
  kp : PySem.W.keepIn K (.ref C) = true
theorem run_make {pins : List (Addr × Obj)} {σ : St} {H : Hp} {s : Shared} {Q : VK} {us : List Value} {vs : List V} (M : Mk X.K C f) (F : FnOk X.prog X.w X.K X.mg X.base CX k f fd ps sp) (hr : Room (k + 1) X.A) (hb : Binds X.K fd ps ds) (hd : Vals dvs ds)
    (hx : Passes CX X E) (I : Inv X pins σ H s) (r : Vals vs us)
    (h : ∀ x dx, H x = none → H dx = none → dx ≠ x → sp (.ref x :: (vs ++ dvs)) (upd (upd H dx (.own x)) x (.ins C dx [])) (fun v H2 => v = .non ∧ Q (.ref x) H2) E) :
    wpAny (model X.prog X.w) X.A (call (.ref C) us) (EP X pins σ Q) X.xe s := by
  have hq := h (s.heap.objs.size + 1) s.heap.objs.size (I.hok.fresh (Nat.le_succ _)) (I.hok.fresh (Nat.le_refl _)) (Nat.ne_of_lt (Nat.lt_succ_self _))
  have I2 := Inv.made (C := C) I
  have r2 : Vals (V.ref (s.heap.objs.size + 1) :: (vs ++ dvs)) (Value.ref (s.heap.objs.size + 1) :: (us ++ ds)) := .cons rfl (r.append hd)
  have hl : (Value.ref (s.heap.objs.size + 1) :: us ++ ds).length = ps.length := by
    have e := r2.length
    rw [F.len _ _ _ _ hq] at e
    exact e.symm
  refine wpAny_call (make_map (f := f) I.kIn M.makes M.init (beq_iff_eq.mp M.fn) (codeAny_mono (F.run _ X.stack _ _ ⟨Value.ref (s.heap.objs.size + 1) :: us, []⟩ (Value.ref (s.heap.objs.size + 1) :: (us ++ ds)) _ _ E (hr.make C us [])
    (I2.env0.make C us []) (hb _ (Value.ref (s.heap.objs.size + 1) :: us) I2.kIn hl) r2 hq) fun r s' hq' => ?_))
  cases r with
  | error e => exact hx pins σ _ _ e s' I2 hq'
  | ok fl =>
    cases fl with
    | ret u =>
      obtain ⟨v, H', I3, rv, ev, q3⟩ := I2.after hq'
      subst ev
      exact ⟨rv, ⟨V.ref (s.heap.objs.size + 1), H', I3, rfl, q3⟩⟩
    | next => exact False.elim hq'
    | brk => exact False.elim hq'
    | cont => exact False.elim hq'
theorem pe_make (M : Mk X.K C f) (F : FnOk X.prog X.w X.K X.mg X.base CX k f fd ps sp) (hr : Room (k + 1) X.A) (hg : Gl X x) (hm : X.mg x = some (.ref C)) (hb : Binds X.K fd ps ds) (hd : Vals dvs ds) (hx : Passes CX X E)
    (ha : PA X (e :: es) t) (hdb : (x == ("__debug__" : Str)) = false := by decide) (he : starEach (e :: es) X.env = (false, eval e X.env) :: starEach es X.env := by rfl) (hpl : (backTo pos (starEach es X.env)).any (·.1) = false := by rfl) :
    PE X (.Call (.Name x p) (e :: es) [] pos) (tMake C sp dvs E t) := by
  intro pins s σ H Q I h
  refine wpAny_Call_Name_kw (ld_glob I hg hm ?_ hdb)
  refine PySem.W.callWith_K (h₀ := X.base) I.ok.mod.kin M.kp (thn (ha pos pins s σ H _ I h) fun us s1 ⟨vs, H1, I1, r, q⟩ => ⟨I1.kIn, ?_⟩) he hpl
  exact run_make M F hr hb hd hx I1 r q
end
section
variable {X : Cx} {CX : CXT} {k : Nat} {f C : Addr} {fd : FuncData} {ps ks : List Str} {sp : Sp} {E : XK} {x m : Str} {p pos apos kpos : Pos} {e o : Expr} {es : List Expr} {kws : List Keyword} {te ta : TE} {t tk : TA} {nm : Option Str}
variable {g : List Value → List Value → List Value} {gV : List V → List V → List V}
end
/-! ### a def's body keeps its promise -/
structure FnScope (N P : List Str) (sc : Scope) : Prop where
  kind : sc.kind = .function
  co : sc.isCoroutine = false
  gen : sc.isGenerator = false
  nd : N.Nodup
  pre : N.take P.length = P
  par : ∀ x ∈ P, sc.names.lookup x = some .local ∨ sc.names.lookup x = some .cell
  nofree : ∀ y ∈ sc.names, y.2 ≠ .free
theorem bindL_out {kindOf : Str → Option NameKind} {x : Str} : ∀ {binds : List (Str × Value)} {m : Str → Option Value}, (∀ v, (x, v) ∉ binds) → bindL kindOf binds m x = m x
  | [], _, _ => rfl
  | (n, v) :: r, m, h => by
    unfold bindL
    rw [bindL_out fun w hw => h w (List.mem_cons_of_mem _ hw)]
    split
    · have : x ≠ n := by rintro rfl; exact h v List.mem_cons_self
      simp [this]
    · rfl
theorem bindC_out {kindOf : Str → Option NameKind} {x : Str} : ∀ {binds : List (Str × Value)} {m : Str → Option Value}, (∀ v, (x, v) ∉ binds) → bindC kindOf binds m x = m x
  | [], _, _ => rfl
  | (n, v) :: r, m, h => by
    unfold bindC
    rw [bindC_out fun w hw => h w (List.mem_cons_of_mem _ hw)]
    split
    · rfl
    · have : x ≠ n := by rintro rfl; exact h v List.mem_cons_self
      simp [this]
theorem bindL_get {kindOf : Str → Option NameKind} {x : Str} {v : Value} : ∀ {P : List Str} {vs : List Value} {i : Nat} {m : Str → Option Value}, P.Nodup → P[i]? = some x → vs[i]? = some v → kindOf x = some .local →
    bindL kindOf (P.zip vs) m x = some v
  | [], _, _, _, _, h, _, _ => by simp at h
  | _ :: _, [], _, _, _, _, h, _ => by simp at h
  | p :: P, w :: vs, 0, m, nd, h1, h2, hk => by
    simp at h1 h2; subst h1; subst h2
    show bindL kindOf ((p, w) :: P.zip vs) m p = _
    unfold bindL
    rw [bindL_out fun v hv => (List.nodup_cons.mp nd).1 (List.of_mem_zip hv).1, if_pos hk]
    simp
  | p :: P, w :: vs, i + 1, m, nd, h1, h2, hk => by
    show bindL kindOf ((p, w) :: P.zip vs) m x = _
    unfold bindL
    exact bindL_get (i := i) (List.nodup_cons.mp nd).2 (by simpa using h1) (by simpa using h2) hk
theorem bindC_get {kindOf : Str → Option NameKind} {x : Str} {v : Value} : ∀ {P : List Str} {vs : List Value} {i : Nat} {m : Str → Option Value}, P.Nodup → P[i]? = some x → vs[i]? = some v → kindOf x ≠ some .local →
    bindC kindOf (P.zip vs) m x = some v
  | [], _, _, _, _, h, _, _ => by simp at h
  | _ :: _, [], _, _, _, _, h, _ => by simp at h
  | p :: P, w :: vs, 0, m, nd, h1, h2, hk => by
    simp at h1 h2; subst h1; subst h2
    show bindC kindOf ((p, w) :: P.zip vs) m p = _
    unfold bindC
    rw [bindC_out fun v hv => (List.nodup_cons.mp nd).1 (List.of_mem_zip hv).1, if_neg hk]
    simp
  | p :: P, w :: vs, i + 1, m, nd, h1, h2, hk => by
    show bindC kindOf ((p, w) :: P.zip vs) m x = _
    unfold bindC
    exact bindC_get (i := i) (List.nodup_cons.mp nd).2 (by simpa using h1) (by simpa using h2) hk
def start (N : List Str) (vs : List V) : St := vs.map some ++ List.replicate (N.length - vs.length) none
def cxOf (CX : CXT) (P : Program) (w : World) (K : PySem.W.Frag) (mg : Str → Option Value) (base : Heap) (N : List Str) (qual : Str) (scope : Scope) (f : Addr) (cd : Value) (A : Around) (outer : List Env) (s : Shared) (H : Hp) (E : XK) : Cx where
  prog := P
  w := w
  K := K
  mg := mg
  base := base
  A := A.deeper (envOfC qual scope s.heap.objs.size f cd)
  N := N
  s₀ := s
  H₀ := H
  env := envOfC qual scope s.heap.objs.size f cd
  outer := outer
  stack := envOfC qual scope s.heap.objs.size f cd :: outer
  ex := []
  calm := true
  fn := fun _ => true
  pn := []
  xe := fun e s' => wpAny (model P w) (A.deeper (envOfC qual scope s.heap.objs.size f cd)) (leaving (envOfC qual scope s.heap.objs.size f cd) e) (fun _ s'' => CX outer H s E e s'') (fun e' s'' => CX outer H s E e' s'') s'
theorem cell_has {sc : Scope} {n : Nat} {x : Str} (h : sc.names.lookup x = some .cell) : ∃ c, (cellsFrom n sc.names []).lookup x = some c := by
  have q := PySem.W.cellsFrom_some sc.names n [] (.inl h)
  exact Option.isSome_iff_exists.mp q
theorem inv_start {CX : CXT} {P : Program} {w : World} {K : PySem.W.Frag} {mg : Str → Option Value} {base : Heap} {N ps : List Str} {qual : Str} {scope : Scope} {f : Addr} {cd : Value} {A : Around} {outer : List Env} {s s1 : Shared} {H : Hp} {E : XK} {us : List Value} {vs : List V}
    (S : FnScope N ps scope) (hd : A.handled = none) (e0 : Env0 P w K mg base A outer s H) (hl : vs.length = ps.length) (r : Vals vs us)
    (x : InCallC s s.heap.objs.size (bindL (envOfC qual scope s.heap.objs.size f cd).kindOf (ps.zip us) fun _ => none) (cellsFrom (s.heap.objs.size + 1) scope.names []) (bindC (envOfC qual scope s.heap.objs.size f cd).kindOf (ps.zip us) fun _ => none) s1) (hup : s.toks ≤ s1.toks) :
    Inv (cxOf CX P w K mg base N qual scope f cd A outer s H E) [] (start N vs) H s1 := by
  have hpl : ps.length ≤ N.length := by have := congrArg List.length S.pre; rw [List.length_take] at this; omega
  obtain ⟨h1, tk, rfl, hk⟩ := x.done
  have htk : s.toks ≤ tk := hup
  have noA : ∀ b : Addr, b ∉ (cxOf CX P w K mg base N qual scope f cd A outer s H E).ex := fun b z => absurd (show b ∈ ([] : List Addr) from z) (by simp)
  refine ⟨⟨e0.mod, S.kind, rfl, rfl, Nat.le_refl _, fun y z c h1 h2 => ?_, fun y hy => ?_, fun y c _ h => ?_, fun _ => hd, Around.frames_deeper e0.frames, .inr ⟨rfl, rfl⟩, fun b z => absurd z (noA b), e0.bs, e0.bsz, fun b _ _ => noA b, fun b z => absurd z (noA b), e0.funs, e0.frf, e0.tk⟩,
    rfl, e0.bare, Un.kept hk, ⟨_, x.toInCall.ns, fun i y v h1 h2 h3 => ?_⟩, fun y c h => ⟨_, x.cell y c h⟩, e0.hok.fresh (Nat.le_refl _), fun y c h => ?_, fun p hp => absurd (show p ∈ ([] : List (Addr × Obj)) from hp) (by simp), e0.hok.kept hk, ?_, htk⟩
  · exact name_of_addr x.apart (PySem.mem_of_lookup h1) (PySem.mem_of_lookup h2)
  · have hy : scope.names.lookup y = some .cell ∨ scope.names.lookup y = some .free := hy
    rcases hy with hy | hy
    · exact cell_has hy
    · exact absurd rfl (S.nofree _ (PySem.mem_of_lookup hy))
  · exact Nat.le_of_lt (x.above y c (PySem.mem_of_lookup h))
  · have hi : i < vs.length := by
      unfold start at h2
      by_cases hi : i < vs.length
      · exact hi
      · rw [List.getElem?_append_right (by simpa using hi)] at h2
        rw [List.getElem?_replicate] at h2
        split at h2 <;> cases h2
    have ha : vs[i]? = some v := by
      unfold start at h2
      rw [List.getElem?_append_left (by simpa using hi), List.getElem?_map] at h2
      cases e : vs[i]? with
      | none => rw [e] at h2; cases h2
      | some a => rw [e] at h2; cases h2; rfl
    obtain ⟨u, hu, rv⟩ := r.get ha
    have hp : ps[i]? = some y := by
      rw [← S.pre, List.getElem?_take_of_lt (by omega)]; exact h1
    have ndP : ps.Nodup := by rw [← S.pre]; exact S.nd.sublist (List.take_sublist _ _)
    refine ⟨u, rv, ?_⟩
    rcases S.par y (List.mem_of_getElem? hp) with k | k
    · exact .inl ⟨k, bindL_get ndP hp hu k⟩
    · obtain ⟨c, e⟩ := cell_has (n := s.heap.objs.size + 1) k
      refine .inr ⟨.inl k, c, e, ?_⟩
      have q := x.cell y c e
      rw [bindC_get ndP hp hu (by show scope.names.lookup y ≠ _; rw [k]; decide)] at q
      exact q
  · exact e0.hok.fresh (Nat.le_of_lt (x.above y c (PySem.mem_of_lookup h)))
  · unfold start
    show _ = N.length
    rw [List.length_append, List.length_map, List.length_replicate]
    omega
theorem fn_of {CX : CXT} {P : Program} {w : World} {K : PySem.W.Frag} {mg : Str → Option Value} {base : Heap} {k : Nat} {f : Addr} {name qual : Str} {params : Arguments} {body : List Stmt} {scope : Scope} {dV kV doc pm cdv ct oc : Value} {an od : Option Addr}
    {osl : Array (Option Value)} {N ps : List Str} {sp : Sp} (lk : K.lookup f = some ⟨oc, od, .func (PySem.W.fnOf name qual params body scope dV kV doc pm an cdv ct), osl⟩) (hcd : PySem.W.codeIn K cdv qual = true) (S : FnScope N ps scope)
    (len : ∀ vs H Q E, sp vs H Q E → vs.length = ps.length)
    (hbody : ∀ (A : Around) (outer : List Env) (s : Shared) (H : Hp) (vs : List V) (Q : VK) (E : XK), Room k (A.deeper (envOfC qual scope s.heap.objs.size f cdv)) → sp vs H Q E →
      ∃ t, PSs (cxOf CX P w K mg base N qual scope f cdv A outer s H E) body t ∧ t { nx := fun _ H' => Q .non H', rt := Q } (start N vs) H) :
    FnOk P w K mg base CX (k + 1) f (PySem.W.fnOf name qual params body scope dV kV doc pm an cdv ct) ps sp := by
  refine ⟨len, fun A outer s H args us vs Q E hr e0 hb r hsp => ?_⟩
  have hl := len _ _ _ _ hsp
  have KX : K.In s.heap := e0.mod.kin.keeps fun b o e => (e0.bs b o e).1
  have lim : s.heap.NoLimit := e0.mod.nolimit.keeps fun b o e => (e0.bs b o e).1
  have hkind : ∀ y ∈ ps.zip us, scope.names.lookup y.1 = some .local ∨ (scope.names.lookup y.1 = some .cell ∧ ((cellsFrom (s.heap.objs.size + 1) scope.names []).lookup y.1).isSome = true) := fun ⟨n, v⟩ hy => by
    rcases S.par n (List.of_mem_zip hy).1 with q | q
    · exact .inl q
    · exact .inr ⟨q, PySem.W.cellsFrom_some _ _ _ (.inl q)⟩
  refine TK.codeAny_up (Nat.le_refl _) ?_
  refine codeAny_call_function hr.depth (KX _ _ lk) rfl S.co S.gen rfl (PySem.W.codeRec_of KX hcd) (hb _ _ _ _ ?_)
  refine TK.wpAny_up (Nat.le_refl _) (wpAny_newFunctionEnv_cells S.kind hkind fun env he s1 x hup => ?_)
  subst he
  refine ⟨lim.keeps x.toInCall.keep, codeAny_func ?_⟩
  obtain ⟨t, ht, hq⟩ := hbody A outer s H vs Q E (hr.deeper _) hsp
  have I : Inv (cxOf CX P w K mg base N qual scope f cdv A outer s H E) [] (start N vs) H s1 := inv_start S hr.hd e0 hl r x hup
  refine wpAny_mono (ht [] s1 (start N vs) H _ I hq) (fun fl s' hs hup' => ?_) fun e s' hs => wpAny_mono hs (fun _ _ z _ => z) fun _ _ z _ => z
  have fin : ∀ {σ' : St} {H' : Hp} {v : V} {u : Value}, Inv (cxOf CX P w K mg base N qual scope f cdv A outer s H E) [] σ' H' s' → RelV v u → Q v H' → CE outer P w H s Q u s' :=
    fun {σ' H' v u} J rv q => ⟨v, H', J.os, J.bare, J.base, J.hok, rv, hup', q⟩
  cases fl with
  | ret u =>
    obtain ⟨v, σ', H', J, rv, q⟩ := hs
    exact fin J rv q
  | next =>
    obtain ⟨σ', H', J, q⟩ := hs
    exact fin (v := V.non) (u := Value.none) J rfl q
  | brk =>
    obtain ⟨_, _, _, q⟩ := hs
    exact False.elim q
  | cont =>
    obtain ⟨_, _, _, q⟩ := hs
    exact False.elim q
end L2
namespace L2
open PySem PySem.Spec PyProof.Rows
section
variable {X : Cx} {x : Str} {p pos : Pos} {e : Expr} {es : List Expr} {t : TA} {id T : String} {r : List V → Hp → VK → Prop}
def tCB (r : List V → Hp → VK → Prop) (t : TA) : TE := fun σ H Q => t σ H fun vs H1 => r vs H1 Q
theorem pe_callB (hc : CallR X (.builtin id) r) (hg : Gl X x) (hm : X.mg x = none) (hv : bootBuiltins x = some (.builtin id)) (ha : PA X (e :: es) t) (hn : x ≠ "__name__" := by decide) (hdb : (x == ("__debug__" : Str)) = false := by decide)
    (he : starEach (e :: es) X.env = (false, eval e X.env) :: starEach es X.env := by rfl) (hpl : (backTo pos (starEach es X.env)).any (·.1) = false := by rfl) : PE X (.Call (.Name x p) (e :: es) [] pos) (tCB r t) := by
  intro pins s σ H Q I h
  refine wpAny_Call_Name_kw (ld_blt I hg hm hv ?_ hn hdb)
  exact PyProof.Rows.callWith_builtin1 (thn (ha pos pins s σ H _ I h) fun us s1 ⟨vs, H1, I1, r1, q1⟩ => hc pins s1 σ H1 vs us Q I1 r1 q1) he hpl
theorem pe_callTy (hc : CallR X (.type T) r) (hg : Gl X x) (hm : X.mg x = none) (hv : bootBuiltins x = some (.type T)) (ha : PA X (e :: es) t) (hn : x ≠ "__name__" := by decide) (hdb : (x == ("__debug__" : Str)) = false := by decide)
    (he : starEach (e :: es) X.env = (false, eval e X.env) :: starEach es X.env := by rfl) (hpl : (backTo pos (starEach es X.env)).any (·.1) = false := by rfl) : PE X (.Call (.Name x p) (e :: es) [] pos) (tCB r t) := by
  intro pins s σ H Q I h
  refine wpAny_Call_Name_kw (ld_blt I hg hm hv ?_ hn hdb)
  exact PyProof.Rows.callWith_type1 (thn (ha pos pins s σ H _ I h) fun us s1 ⟨vs, H1, I1, r1, q1⟩ => hc pins s1 σ H1 vs us Q I1 r1 q1) he hpl
end
end L2
namespace HT
open PySem PyProof.Rows
section
open PySem.SeqAt
open PySem.AutoSeq1 (wpAny_loadPart')
open PySem.MeetsSeq PySem.MeetsSeq2 PySem.MeetsSeq3
end
section
variable {prog : Program} {w : World} {A : Around} {E : Value → Shared → Prop} {s : Shared}
/-! ### t[a:b], not the whole -/
def sIx (n d : Nat) : Option Int → Nat
  | none => d
  | some v => if v < 0 then (v + (n : Int)).toNat else min v.toNat n
end
end HT
namespace L2
open PySem PySem.Spec PyProof.Rows
/-! ### the parts of a slice -/
abbrev TO := St → Hp → (Option Int → Hp → Prop) → Prop
def PO (X : Cx) (e : Option Expr) (t : TO) : Prop :=
  ∀ (pins : List (Addr × Obj)) (s : Shared) (σ : St) (H : Hp) (Q : Option Int → Hp → Prop), Inv X pins σ H s → t σ H Q →
    wpAny (model X.prog X.w) X.A (evalPart e X.env) (fun u s' => ∃ o H', Inv X pins σ H' s' ∧ IsPart u o ∧ Q o H') X.xe s
def tNoPart : TO := fun _ H Q => Q none H
def tPart (t : TE) : TO := fun σ H Q => t σ H fun x H1 => ∃ i, x = .int i ∧ Q (some i) H1
section
variable {X : Cx} {e : Expr} {te : TE} {lo hi : Option Expr} {tl th : TO} {pos p2 : Pos}
theorem po_none : PO X none tNoPart := by
  intro pins s σ H Q I h
  rw [evalPart_none]
  exact wpAny_pure ⟨none, H, I, .none, h⟩
theorem po_some (h : PE X e te) : PO X (some e) (tPart te) := by
  intro pins s σ H Q I hw
  rw [evalPart_some]
  refine thn (h pins s σ H _ I hw) fun u s1 ⟨x, H1, I1, r1, q1⟩ => ?_
  obtain ⟨i, rfl, q⟩ := q1
  obtain ⟨t, rfl⟩ := r1
  exact ⟨some i, H1, I1, .int i t, q⟩
def SlR (X : Cx) (r : V → Option Int → Option Int → Hp → VK → Prop) : Prop :=
  ∀ (pins : List (Addr × Obj)) (s : Shared) (σ : St) (H : Hp) (x : V) (v vl vu : Value) (lo hi : Option Int) (sl : Addr) (Q : VK), Inv X pins σ H s → RelV x v → s.heap.IsSliceOf sl vl vu .none → IsPart vl lo → IsPart vu hi → r x lo hi H Q →
    ∃ T id, typeLookup (.type T) "__getitem__" = pure (some (.builtin id)) ∧ s.TypeIs v T ∧ wpAny (model X.prog X.w) X.A (getItem v (.ref sl)) (EP X pins σ Q) X.xe s
def tSl (r : V → Option Int → Option Int → Hp → VK → Prop) (te : TE) (tl th : TO) : TE := fun σ H Q => te σ H fun x H1 => tl σ H1 fun l H2 => th σ H2 fun u H3 => r x l u H3 Q
theorem pe_slice {r : V → Option Int → Option Int → Hp → VK → Prop} (hr : SlR X r) (he : PE X e te) (hl : PO X lo tl) (hu : PO X hi th) : PE X (.Subscript e (.Slice lo hi none p2) pos) (tSl r te tl th) := by
  intro pins s σ H Q I h
  refine Subscript_ (thn (he pins s σ H _ I h) fun v s1 ⟨x, H1, I1, r1, q1⟩ => ?_)
  refine wpAny_Slice (thn (hl pins s1 σ H1 _ I1 q1) fun vl s2 ⟨l, H2, I2, pl, q2⟩ => thn (hu pins s2 σ H2 _ I2 q2) fun vu s3 ⟨u, H3, I3, pu, q3⟩ => ?_)
  rw [evalPart_none]
  refine wpAny_pure ?_
  have I4 : Inv X pins σ H3 { s3 with heap := s3.heap.push { cls := .type "slice", data := .fields #[vl, vu, .none] } } := I3.kept (t' := s3.toks) fun b ob q => Heap.get?_push_of_some _ q
  obtain ⟨T, id, hT, ht, hg⟩ := hr pins { s3 with heap := s3.heap.push { cls := .type "slice", data := .fields #[vl, vu, .none] } } σ H3 x v vl vu l u s3.heap.objs.size Q I4 r1 (Heap.IsSliceOf.new ..) pl pu q3
  show wpAny (model X.prog X.w) X.A (subscriptTail e (.Slice lo hi none p2) v (.ref s3.heap.objs.size)) (EP X pins σ Q) X.xe { s3 with heap := s3.heap.push { cls := .type "slice", data := .fields #[vl, vu, .none] } }
  exact tail_any (ops := [.ref s3.heap.objs.size, v]) ht hT hg (by with_unfolding_all rfl)
def cutV (xs : List V) (lo hi : Option Int) : List V := (xs.drop (HT.sIx xs.length 0 lo)).take (HT.sIx xs.length xs.length hi - HT.sIx xs.length 0 lo)
theorem cutV_length (xs : List V) (lo hi : Option Int) : (cutV xs lo hi).length ≤ xs.length := by
  unfold cutV
  rw [List.length_take, List.length_drop]
  omega
end
end L2
namespace L2
open PySem PySem.Spec PyProof.Rows
/-! ### places -/
def ixN (n : Nat) (i : Int) : Option Nat := if 0 ≤ i then (if i < n then some i.toNat else none) else if -(n : Int) ≤ i then some (i + n).toNat else none
def atI {α : Type} (xs : List α) (i : Int) : Option α := (ixN xs.length i).bind fun j => xs[j]?
theorem ixN_seq {n : Nat} {i : Int} {j : Nat} (h : ixN n i = some j) : seqIndex? i n = some j ∧ j < n ∧ -(n : Int) ≤ i ∧ i < n := by
  unfold ixN at h
  by_cases h0 : 0 ≤ i
  · rw [if_pos h0] at h
    by_cases h1 : i < n
    · rw [if_pos h1] at h
      have e : i.toNat = j := Option.some.inj h
      exact ⟨by rw [seqIndex_of h0 h1, e], by omega, by omega, h1⟩
    · rw [if_neg h1] at h; cases h
  · rw [if_neg h0] at h
    by_cases h1 : -(n : Int) ≤ i
    · rw [if_pos h1] at h
      have e : (i + n).toNat = j := Option.some.inj h
      exact ⟨by rw [seqIndex_neg (by omega) h1, e], by omega, h1, by omega⟩
    · rw [if_neg h1] at h; cases h
theorem atI_get {α : Type} {xs : List α} {i : Int} {v : α} (h : atI xs i = some v) : ∃ j, seqIndex? i xs.length = some j ∧ xs[j]? = some v ∧ j < xs.length ∧ -(xs.length : Int) ≤ i ∧ i < xs.length := by
  unfold atI at h
  cases e : ixN xs.length i with
  | none => rw [e] at h; cases h
  | some j =>
    rw [e] at h
    obtain ⟨h1, h2, h3, h4⟩ := ixN_seq e
    exact ⟨j, h1, h, h2, h3, h4⟩
theorem atI_nat {α : Type} {xs : List α} {j : Nat} {v : α} (h : xs[j]? = some v) : atI xs (j : Int) = some v := by
  have hj : j < xs.length := (List.getElem?_eq_some_iff.mp h).1
  have e : ixN xs.length (j : Int) = some j := by
    unfold ixN
    rw [if_pos (by omega), if_pos (by omega)]; simp
  unfold atI; rw [e]; exact h
/-! ### what may be subscripted -/
def PlainIx (b : Expr) : Prop := ∀ o i, subscripted b false o i = operate [o, i] (getItem o i)
def IxR (X : Cx) (r : R2) : Prop :=
  ∀ (value slice : Expr) (pins : List (Addr × Obj)) (s : Shared) (σ : St) (H : Hp) (x y : V) (v u : Value) (Q : VK), Inv X pins σ H s → RelV x v → RelV y u → r x y H Q →
    subscripted slice false v u = operate [v, u] (getItem v u) → wpAny (model X.prog X.w) X.A (subscriptTail value slice v u) (EP X pins σ Q) X.xe s
def MtR (X : Cx) (id : String) (r : V → List V → Hp → VK → Prop) : Prop :=
  ∀ (pins : List (Addr × Obj)) (s : Shared) (σ : St) (H : Hp) (x : V) (xs : List V) (v : Value) (us : List Value) (Q : VK), Inv X pins σ H s → RelV x v → Vals xs us → r x xs H Q →
    wpAny (model X.prog X.w) X.A (call (.builtin id) (v :: us)) (EP X pins σ Q) X.xe s
section
variable {X : Cx} {a b : Expr} {ta tb : TE} {pos : Pos}
theorem IxR.or {r r' : R2} (h : IxR X r) (h' : IxR X r') : IxR X (fun x y H Q => r x y H Q ∨ r' x y H Q) := by
  intro value slice pins s σ H x y v u Q I rx ry q hs
  rcases q with q | q
  · exact h value slice pins s σ H x y v u Q I rx ry q hs
  · exact h' value slice pins s σ H x y v u Q I rx ry q hs
theorem pe_ix {r : R2} (hr : IxR X r) (ha : PE X a ta) (hb : PE X b tb) (hs : PlainIx b) : PE X (.Subscript a b pos) (tOp r ta tb) := by
  intro pins s σ H Q I h
  exact Subscript_ (binT ha hb I h fun v u s2 x y H2 I2 rx ry q => hr a b pins s2 σ H2 x y v u Q I2 rx ry q (hs _ _))
def rIxL (K : PySem.W.Frag) : R2 := fun x y H Q => ∃ p xs i v, x = .ref p ∧ y = .int i ∧ SqL K H p xs ∧ atI xs i = some v ∧ Q v H
def rIxT (K : PySem.W.Frag) : R2 := fun x y H Q => ∃ p xs i v, x = .ref p ∧ y = .int i ∧ SqT K H p xs ∧ atI xs i = some v ∧ Q v H
def rIxS : R2 := fun x y H Q => ∃ z i c, x = .str z ∧ y = .int i ∧ z.length ≤ sizeLine ∧ atI z.cps.toList i = some c ∧ Q (.str ⟨#[c]⟩) H
theorem ix_list : IxR X (rIxL X.K) := by
  intro value slice pins s σ H x y v u Q I rx ry h hs
  obtain ⟨p, xs, i, z, rfl, rfl, hq, he, q⟩ := h
  cases rx
  obtain ⟨t, rfl⟩ := ry
  obtain ⟨its, r, pl, hz⟩ := I.list hq
  obtain ⟨j, h1, h2, h3, h4, h5⟩ := atI_get he
  obtain ⟨w, ew, rw'⟩ := r.get h2
  have hl := r.length
  have hn := line63
  have fin : EP X pins σ Q w s := ⟨z, H, I, rw', q⟩
  by_cases h0 : 0 ≤ i
  · have hj : i.toNat = j := by
      rw [seqIndex_of h0 h5] at h1
      exact Option.some.inj h1
    exact item_listR pl.isList h0 (by omega) (by rw [hj]; simpa using ew) fin hs
  · have hj : (i + (its.toArray.size : Int)).toNat = j := by
      rw [seqIndex_neg (by omega) h4] at h1
      rw [List.size_toArray, ← hl]
      exact Option.some.inj h1
    exact subscriptTail_builtinR (x := w) pl.isList.typeIs slot_list_getitem.lookup
      (wpAny_getItem_list_neg (Q := fun r s' => r = w ∧ EP X pins σ Q r s') pl.isList (by omega) (by rw [List.size_toArray] <;> omega) (by omega) (by rw [hj]; simpa using ew) ⟨rfl, fin⟩) hs
theorem ix_tup : IxR X (rIxT X.K) := by
  intro value slice pins s σ H x y v u Q I rx ry h hs
  obtain ⟨p, xs, i, z, rfl, rfl, hq, he, q⟩ := h
  cases rx
  obtain ⟨t, rfl⟩ := ry
  obtain ⟨its, r, pl, hz⟩ := I.tuple hq
  obtain ⟨j, h1, h2, h3, h4, h5⟩ := atI_get he
  obtain ⟨w, ew, rw'⟩ := r.get h2
  have hl := r.length
  have hn := line63
  have fin : EP X pins σ Q w s := ⟨z, H, I, rw', q⟩
  exact subscriptTail_builtinR (x := w) pl.typeIs slot_tuple_getitem.lookup
    (getItem_tuple (j := j) (Q := fun r s' => r = w ∧ EP X pins σ Q r s') pl (by omega) (by omega) (by rw [List.size_toArray, ← hl]; exact h1) (by simpa using ew) ⟨rfl, fin⟩) hs
theorem ix_str : IxR X rIxS := by
  intro value slice pins s σ H x y v u Q I rx ry h hs
  obtain ⟨z, i, c, rfl, rfl, hz, he, q⟩ := h
  obtain ⟨t, rfl⟩ := rx
  obtain ⟨t', rfl⟩ := ry
  obtain ⟨j, h1, h2, h3, h4, h5⟩ := atI_get he
  have hl : z.cps.toList.length = z.length := by simp [Str.length]
  rw [hl] at h1 h4 h5
  have hn := line63
  exact tail_any (typeIs_str s z t) slot_str_getitem.lookup (getItem_str (c := c) (by
    have e1 : decide (i < -(2 ^ 63 : Int)) = false := decide_eq_false (by omega)
    have e2 : decide (i ≥ 2 ^ 63) = false := decide_eq_false (by omega)
    rw [e1, e2, Bool.or_false]) (by rw [h1]; simpa using h2) ⟨.str ⟨#[c]⟩, H, I.tok _, ⟨_, rfl⟩, q⟩) hs
def rIx (K : PySem.W.Frag) : R2 := fun x y H Q => rIxL K x y H Q ∨ rIxT K x y H Q ∨ rIxS x y H Q
theorem ix_seq : IxR X (rIx X.K) := ix_list.or (ix_tup.or ix_str)
/-! ### xs[i] = v, any sign -/
theorem mapSeq_set (its : List Value) (n j : Nat) (u : Value) : Obj.mapSeq (·.setIfInBounds j u) { cls := .type "list", data := .seq its.toArray n } = { cls := .type "list", data := .seq (its.set j u).toArray n } := by
  simp [Obj.mapSeq]
theorem Inv.lst {pins : List (Addr × Obj)} {σ : St} {H : Hp} {s : Shared} {p : Addr} {xs : List V} (I : Inv X pins σ H s) (h : H p = some (.lst xs)) :
    ∃ (its : List Value) (n : Nat), Vals xs its ∧ s.heap.get? p = some { cls := .type "list", data := .seq its.toArray n } ∧ xs.length ≤ sizeLine := by
  obtain ⟨z, its, n, r, e⟩ := I.hok p _ h
  exact ⟨its, n, r, e, z⟩
theorem Inv.lstUpd {pins : List (Addr × Obj)} {σ : St} {H : Hp} {s : Shared} {p : Addr} {xs ys : List V} {its its' : List Value} {n n' : Nat} {f : Obj → Obj} (I : Inv X pins σ H s) (h : H p = some (.lst xs))
    (ho : s.heap.get? p = some { cls := .type "list", data := .seq its.toArray n }) (hf : f { cls := .type "list", data := .seq its.toArray n } = { cls := .type "list", data := .seq its'.toArray n' }) (r : Vals ys its') (hz : ys.length ≤ sizeLine) (t : Nat) (ht : s.toks ≤ t := by first | exact Nat.le_refl _ | exact Nat.le_succ _ | assumption | omega) :
    Inv X pins σ (upd H p (.lst ys)) { s with heap := s.heap.update p f, toks := t } := by
  have e : (s.heap.update p f).get? p = some { cls := .type "list", data := .seq its'.toArray n' } := by
    rw [Heap.get?_update_self f ho (by rw [hf] <;> rfl), hf]
  refine I.write (x := p) (e := p) (by rw [h]; trivial) (.inl rfl) (fun b u hb q => (Heap.get?_update_other _ _ (Ne.symm hb)).trans q) ⟨_, e⟩ ?_
  exact ⟨hz, its', n', r, e⟩
def rSetL : V → V → V → Hp → (Hp → Prop) → Prop := fun o i v H Q => ∃ p xs k j, o = .ref p ∧ i = .int k ∧ H p = some (.lst xs) ∧ ixN xs.length k = some j ∧ Q (upd H p (.lst (xs.set j v)))
theorem set_list : PSet X rSetL := by
  intro pins s σ H o i v ov iv u Q I ro ri rv h
  obtain ⟨p, xs, k, j, rfl, rfl, hp, hj, q⟩ := h
  cases ro
  obtain ⟨t, rfl⟩ := ri
  obtain ⟨its, n, r, ho, hz⟩ := I.lst hp
  obtain ⟨h1, h2, h3, h4⟩ := ixN_seq hj
  have hl := r.length
  have hn := line63
  have I' : Inv X pins σ (upd H p (.lst (xs.set j v))) { s with heap := s.heap.update p (Obj.mapSeq (·.setIfInBounds j u)) } :=
    I.lstUpd hp ho (mapSeq_set its n j u) (r.set rv j) (by rw [List.length_set]; exact hz) s.toks
  by_cases h0 : 0 ≤ k
  · have hk : k.toNat = j := by
      rw [seqIndex_of h0 h4] at h1
      exact Option.some.inj h1
    exact PySem.W.ki_setAt ho h0 (by omega) (by rw [List.size_toArray, ← hl]; exact h4) (by rw [hk]; exact ⟨_, I', q⟩)
  · have hk : (k + (its.toArray.size : Int)).toNat = j := by
      rw [seqIndex_neg (by omega) h3] at h1
      rw [List.size_toArray, ← hl]
      exact Option.some.inj h1
    exact PySem.W.ki_setBack ho (by omega) (by rw [List.size_toArray, ← hl]; exact h3) (by omega) (by rw [hk]; exact ⟨_, I', q⟩)
/-! ### slices -/
theorem slice_bounds (lo hi : Option Int) (n : Nat) : (sliceBounds lo hi none n).1 = ((HT.sIx n 0 lo : Nat) : Int) ∧ (sliceBounds lo hi none n).2.1 = ((HT.sIx n n hi : Nat) : Int) ∧ (sliceBounds lo hi none n).2.2 = 1 := by
  refine ⟨?_, ?_, rfl⟩
  · cases lo with
    | none => simp [sliceBounds, HT.sIx]
    | some i =>
      simp only [sliceBounds, HT.sIx, Option.getD_none, show (1 : Int) > 0 by decide, if_true]
      by_cases h : i < 0
      · simp only [h, if_true] <;> omega
      · simp only [h, if_false] <;> omega
  · cases hi with
    | none => simp [sliceBounds, HT.sIx]
    | some i =>
      simp only [sliceBounds, HT.sIx, Option.getD_none, show (1 : Int) > 0 by decide, if_true]
      by_cases h : i < 0
      · simp only [h, if_true] <;> omega
      · simp only [h, if_false] <;> omega
theorem slicePick_cut (its : List Value) (lo hi : Option Int) : slicePick its.toArray lo hi none = ((its.drop (HT.sIx its.length 0 lo)).take (HT.sIx its.length its.length hi - HT.sIx its.length 0 lo)).toArray := by
  obtain ⟨h1, h2, h3⟩ := slice_bounds lo hi its.toArray.size
  unfold slicePick
  rw [h1, h2, h3]
  simp only [sliceRange_one, pick_run, List.size_toArray] <;> rfl
def rSlL (K : PySem.W.Frag) : V → Option Int → Option Int → Hp → VK → Prop := fun x lo hi H Q => ∃ a xs, x = .ref a ∧ SqL K H a xs ∧ ∀ p, H p = none → Q (.ref p) (upd H p (.lst (cutV xs lo hi)))
theorem sl_list : SlR X (rSlL X.K) := by
  intro pins s σ H x v vl vu lo hi sl Q I rx hs pl pu h
  obtain ⟨a, xs, rfl, hx, q⟩ := h
  cases rx
  obtain ⟨its, r, ht, hz⟩ := I.list hx
  have hlen := r.length
  refine ⟨"list", _, slot_list_getitem.lookup, ht.isList.typeIs, ?_⟩
  refine wpAny_getItem_list_slice ht.isList hs pl pu .none (by simp) ?_ (by rw [List.size_toArray] <;> omega)
  rw [slicePick_cut, ← hlen]
  refine ⟨.ref s.heap.objs.size, _, I.laid (t' := s.toks) (o := .lst (cutV xs lo hi)) (fun b ob q => Heap.get?_push_of_some _ q) (Nat.le_refl _) ?_, rfl, q _ (I.hok.fresh (Nat.le_refl _))⟩
  exact ⟨Nat.le_trans (cutV_length xs lo hi) hz, _, 0, (r.drop (HT.sIx xs.length 0 lo)).take (HT.sIx xs.length xs.length hi - HT.sIx xs.length 0 lo), Heap.get?_push_size _ rfl⟩
/-! ### in, not in: flat items -/
def flatV : V → Bool
  | .non => true
  | .bl _ => true
  | .int _ => true
  | .str _ => true
  | _ => false
def eqV : V → V → Bool
  | .non, .non => true
  | .bl a, .bl b => a == b
  | .bl a, .int b => (if a then 1 else 0) == b
  | .int a, .bl b => a == (if b then 1 else 0)
  | .int a, .int b => a == b
  | .str a, .str b => a == b
  | _, _ => false
theorem eqAt_V {A : Around} {s : Shared} {y x : V} {u v : Value} (ry : RelV y u) (rx : RelV x v) (fy : flatV y = true) (fx : flatV x = true) : SeqAt.EqAt A s u v (eqV y x) := by
  cases y with
  | non =>
    cases ry
    cases x with
    | non => cases rx; exact SeqAt.EqAt.same _
    | bl b => cases rx; exact SeqAt.EqAt.none_bool b
    | int b => obtain ⟨t, rfl⟩ := rx; exact SeqAt.EqAt.none_int b t
    | str b => obtain ⟨t, rfl⟩ := rx; exact SeqAt.EqAt.none_str b t
    | _ => exact absurd (show false = true from fx) Bool.false_ne_true
  | bl a =>
    cases ry
    cases x with
    | non => cases rx; exact SeqAt.EqAt.bool_none a
    | bl b => cases rx; exact SeqAt.EqAt.bool_bool a b
    | int b => obtain ⟨t, rfl⟩ := rx; exact SeqAt.EqAt.bool_int a b t
    | str b => obtain ⟨t, rfl⟩ := rx; exact SeqAt.EqAt.bool_str a b t
    | _ => exact absurd (show false = true from fx) Bool.false_ne_true
  | int a =>
    obtain ⟨t', rfl⟩ := ry
    cases x with
    | non => cases rx; exact SeqAt.EqAt.int_none a t'
    | bl b => cases rx; exact SeqAt.EqAt.int_bool a t' b
    | int b => obtain ⟨t, rfl⟩ := rx; exact SeqAt.EqAt.int_int a t' b t
    | str b => obtain ⟨t, rfl⟩ := rx; exact SeqAt.EqAt.int_str a t' b t
    | _ => exact absurd (show false = true from fx) Bool.false_ne_true
  | str a =>
    obtain ⟨t', rfl⟩ := ry
    cases x with
    | non => cases rx; exact SeqAt.EqAt.str_none a t'
    | bl b => cases rx; exact SeqAt.EqAt.str_bool a t' b
    | int b => obtain ⟨t, rfl⟩ := rx; exact SeqAt.EqAt.str_int a t' b t
    | str b => obtain ⟨t, rfl⟩ := rx; exact SeqAt.EqAt.str_str a t' b t
    | _ => exact absurd (show false = true from fx) Bool.false_ne_true
  | _ => exact absurd (show false = true from fy) Bool.false_ne_true
def eqU (x : V) (u : Value) : Bool := match u with
  | .none => eqV .non x
  | .bool b => eqV (.bl b) x
  | .int i _ => eqV (.int i) x
  | .str z _ => eqV (.str z) x
  | _ => false
theorem eqU_of {x y : V} {u : Value} (r : RelV y u) (f : flatV y = true) : eqU x u = eqV y x := by
  cases y with
  | non => cases r; rfl
  | bl b => cases r; rfl
  | int i => obtain ⟨t, rfl⟩ := r; rfl
  | str z => obtain ⟨t, rfl⟩ := r; rfl
  | _ => exact absurd (show false = true from f) Bool.false_ne_true
theorem any_eqU {x : V} : ∀ {xs : List V} {us : List Value}, Vals xs us → xs.all flatV = true → us.any (eqU x) = xs.any fun y => eqV y x
  | _, _, .nil, _ => rfl
  | y :: xs, u :: us, .cons r t, f => by
    rw [List.all_cons, Bool.and_eq_true] at f
    rw [List.any_cons, List.any_cons, eqU_of r f.1, any_eqU t f.2]
theorem mem_eqAt {A : Around} {s : Shared} {x : V} {v : Value} (rx : RelV x v) (fx : flatV x = true) : ∀ {xs : List V} {us : List Value}, Vals xs us → xs.all flatV = true → ∀ u ∈ us, SeqAt.EqAt A s u v (eqU x u)
  | _, _, .nil, _ => fun u hu => by cases hu
  | y :: xs, u :: us, .cons r t, f => fun u' hu => by
    rw [List.all_cons, Bool.and_eq_true] at f
    rcases List.mem_cons.mp hu with rfl | hu
    · rw [eqU_of r f.1]; exact eqAt_V r rx f.1 fx
    · exact mem_eqAt rx fx t f.2 u' hu
def inV (x : V) (xs : List V) : Bool := xs.any fun y => eqV y x
def rIn (K : PySem.W.Frag) (neg : Bool) : R2 := fun x y H Q => ∃ p xs, y = .ref p ∧ (SqL K H p xs ∨ SqT K H p xs) ∧ flatV x = true ∧ xs.all flatV = true ∧ Q (.bl (if neg then !inV x xs else inV x xs)) H
theorem op_notIn_seq : OpR X (compareOp .NotIn) (rIn X.K true) := by
  intro pins s σ H x y v u Q I rx ry h
  obtain ⟨p, xs, rfl, hq, fx, fs, q⟩ := h
  cases ry
  rcases hq with hq | hq
  · obtain ⟨its, r, pl, hz⟩ := I.list hq
    refine SeqAt.notIn_listAt (eqU x) pl.isList (fun w hw => mem_eqAt rx fx r fs w (by simpa using hw)) ⟨.bl _, H, I, rfl, ?_⟩
    rw [show its.toArray.any (eqU x) = its.any (eqU x) by simp, any_eqU r fs]
    exact q
  · obtain ⟨its, r, pl, hz⟩ := I.tuple hq
    refine SeqAt.notIn_tupleAt (eqU x) pl (fun w hw => mem_eqAt rx fx r fs w (by simpa using hw)) ⟨.bl _, H, I, rfl, ?_⟩
    rw [show its.toArray.any (eqU x) = its.any (eqU x) by simp, any_eqU r fs]
    exact q
theorem op_notIn_str : OpR X (compareOp .NotIn) (fun x y H Q => ∃ i j, x = .str i ∧ y = .str j ∧ Q (.bl (!(!(Builtin.Str.occurrences j i 0 j.length 1).isEmpty))) H) := by
  intro pins s σ H x y v u Q I rx ry h
  obtain ⟨i, j, rfl, rfl, q⟩ := h
  obtain ⟨t, rfl⟩ := rx
  obtain ⟨t', rfl⟩ := ry
  exact notIn_str ⟨.bl _, H, I, rfl, q⟩
theorem call_tuple_of : CallR X (.type "tuple") (fun xs H Q => ∃ p ys, xs = [.ref p] ∧ ((SqL X.K H p ys ∧ ∀ l, H l = none → Q (.ref l) (upd H l (.tup ys))) ∨ (SqT X.K H p ys ∧ Q (.ref p) H))) := by
  intro pins s σ H xs us Q I r h
  obtain ⟨p, ys, rfl, h⟩ := h
  obtain ⟨u, rfl, rx⟩ := vals1 r
  cases rx
  rcases h with ⟨hq, q⟩ | ⟨hq, q⟩
  · obtain ⟨its, r', pl, hz⟩ := I.list hq
    have hlen := r'.length
    refine call_tuple_list pl.isList (fun h' kp => ?_) (by simp only [List.size_toArray] <;> omega)
    have I1 : Inv X pins σ H { s with heap := h' } := I.kept (t' := s.toks) kp
    have I2 : Inv X pins σ (upd H h'.objs.size (.tup ys)) { s with heap := h'.push { cls := .type "tuple", data := .seq its.toArray } } :=
      I1.laid (t' := s.toks) (fun b o e => Heap.get?_push_of_some _ e) (Nat.le_refl _) (show ObjOk X.prog X.w _ _ _ (.tup ys) from ⟨hz, its, r', IsTup.new _ _⟩)
    exact ⟨.ref h'.objs.size, _, I2, rfl, q _ (I1.hok.fresh (Nat.le_refl _))⟩
  · obtain ⟨its, r', pl, hz⟩ := I.tuple hq
    exact call_tuple_same pl ⟨.ref p, H, I, rfl, q⟩
/-! ### the call of a builtin's method: o.m(..) -/
def tyV (K : PySem.W.Frag) (T : String) (x : V) (H : Hp) : Prop := match x with
  | .str _ => T = "str"
  | .int _ => T = "int"
  | .ref p => (T = "list" ∧ ∃ xs, SqL K H p xs) ∨ (T = "tuple" ∧ ∃ o, K.lookup p = some o ∧ o.cls = .type "tuple" ∧ o.dict = none) ∨
      (T = "dict" ∧ ((∃ kvs, H p = some (.dK kvs)) ∨ ∃ kvs, H p = some (.dT kvs))) ∨ (T = "set" ∧ ∃ S n, H p = some (.set S n))
  | _ => False
theorem tyV_is {pins : List (Addr × Obj)} {σ : St} {H : Hp} {s : Shared} {T : String} {x : V} {v : Value} (I : Inv X pins σ H s) (r : RelV x v) (ty : tyV X.K T x H) :
    s.TypeIs v T ∧ ∀ a, v = .ref a → ∃ ob, s.heap.get? a = some ob ∧ ob.dict = none := by
  cases x with
  | str z =>
    obtain ⟨t, rfl⟩ := r
    cases (show T = "str" from ty)
    exact ⟨typeIs_str s z t, fun _ e => nomatch e⟩
  | int i =>
    obtain ⟨t, rfl⟩ := r
    cases (show T = "int" from ty)
    exact ⟨typeIs_int s i t, fun _ e => nomatch e⟩
  | ref p =>
    cases r
    rcases ty with ⟨rfl, xs, hq⟩ | ⟨rfl, o, hk, hc, hd⟩ | ⟨rfl, hk⟩ | ⟨rfl, S, n, hk⟩
    · obtain ⟨its, _, pl, _⟩ := I.list hq
      refine ⟨pl.isList.typeIs, fun a e => ?_⟩
      cases e
      obtain ⟨o, n, e, c, hd, _⟩ := pl
      exact ⟨o, e, hd⟩
    · refine ⟨⟨o, I.kIn p o hk, hc⟩, fun a e => ?_⟩
      cases e
      exact ⟨o, I.kIn _ o hk, hd⟩
    · have z : ∃ o, s.heap.get? p = some o ∧ o.ExactDict := by
        rcases hk with ⟨kvs, hk⟩ | ⟨kvs, hk⟩
        · obtain ⟨_, _, _, _, o, _, _, e, ex, _⟩ := I.hok p _ hk
          exact ⟨o, e, ex⟩
        · obtain ⟨_, _, _, _, o, _, _, e, ex, _⟩ := I.hok p _ hk
          exact ⟨o, e, ex⟩
      obtain ⟨o, e, ex⟩ := z
      refine ⟨⟨o, e, ex.1⟩, fun a e2 => ?_⟩
      cases e2
      exact ⟨o, e, ex.2.1⟩
    · obtain ⟨o, _, _, _, e, ex, _⟩ := I.hok p _ hk
      refine ⟨⟨o, e, ex.1⟩, fun a e2 => ?_⟩
      cases e2
      exact ⟨o, e, ex.2.1⟩
  | _ => exact False.elim ty
def tBM (K : PySem.W.Frag) (T : String) (r : V → List V → Hp → VK → Prop) (to : TE) (t : TA) : TE := fun σ H Q => to σ H fun x H1 => tyV K T x H1 ∧ t σ H1 fun xs H2 => r x xs H2 Q
variable {o e : Expr} {es : List Expr} {to : TE} {t : TA} {name : Str} {apos cpos : Pos} {T id : String} {r : V → List V → Hp → VK → Prop}
theorem pe_bm (pa : PlainAttrs T) (slot : Slot T name id) (hty : typeOf (.builtin id) = pure (.type "method_descriptor")) (hm : MtR X id r) (ho : PE X o to) (ha : PA X (e :: es) t)
    (hbase : attributeBase o name X.env (eval o X.env) = eval o X.env := by rfl)
    (hfew : ((backTo cpos (starEach (e :: es) X.env)).all (fun x => !x.1) && (backToKw cpos (keywordEach [] X.env)).all (fun x => x.1.isSome)
      && decide ((e :: es).length + ([] : List Keyword).length + (if ([] : List Keyword).isEmpty then 0 else 1) < 30)) = true := by rfl)
    (hline : (apos.endLine == cpos.line) = true := by rfl) (hs : starEach (e :: es) X.env = (false, eval e X.env) :: starEach es X.env := by rfl) (hplain : (backTo cpos (starEach es X.env)).any (·.1) = false := by rfl) :
    PE X (.Call (.Attribute o name apos) (e :: es) [] cpos) (tBM X.K T r to t) := by
  intro pins s σ H Q I h
  refine wpAny_Call_method_late hbase hfew hline rfl (thn (ho pins s σ H _ I h) fun v s1 ⟨x, H1, I1, r1, ty, q1⟩ => ?_)
  obtain ⟨h1, h2⟩ := tyV_is I1 r1 ty
  refine ⟨T, id, pa, slot, hty, h1, h2, ?_⟩
  have hA := ha cpos pins s1 σ H1 _ I1 q1
  rw [hs] at hA ⊢
  refine Calls.callWith_builtin (by show (false || (backTo cpos (starEach es X.env)).any (·.1)) = false; rw [hplain] <;> rfl) (Calls.evalArgs_plain ?_)
  exact thn hA fun us s2 ⟨vs, H2, I2, r2, q2⟩ => hm pins s2 σ H2 x vs v us Q I2 r1 r2 q2
/- xs.append(e), list.index on a module's tuple .. are MtR facts of 06m -/
end
end L2
namespace L2
open PySem PySem.Spec PyProof.Rows
def MtM (X : Cx) (id : String) (r : V → List V → Hp → VK → Prop) : Prop :=
  ∀ (pins : List (Addr × Obj)) (s : Shared) (σ : St) (H : Hp) (x : V) (xs : List V) (v : Value) (us : List Value) (Q : VK), Inv X pins σ H s → RelV x v → Vals xs us → r x xs H Q →
    wpAny (model X.prog X.w) X.A (call (.builtin id) (v :: us)) (EP X pins σ Q) X.xe s
/-! ### lists of values -/
theorem Vals.one : ∀ {x : V} {us : List Value}, Vals [x] us → ∃ u, us = [u] ∧ RelV x u
  | _, _, .cons r .nil => ⟨_, rfl, r⟩
theorem Vals.rep {xs : List V} {us : List Value} (h : Vals xs us) : ∀ k : Nat, Vals (List.replicate k xs).flatten (List.replicate k us).flatten
  | 0 => .nil
  | k + 1 => by
    rw [List.replicate_succ, List.replicate_succ, List.flatten_cons, List.flatten_cons]
    exact Vals.append h (Vals.rep h k)
theorem foldl_rep (its : List Value) : ∀ (k : Nat) (acc : List Value),
    List.foldl (fun x1 x2 => x1 ++ x2) acc.toArray (List.replicate k its.toArray) = (acc ++ (List.replicate k its).flatten).toArray
  | 0, acc => by simp
  | k + 1, acc => by
    have e : acc.toArray ++ its.toArray = (acc ++ its).toArray := by simp
    have e2 : (acc ++ its) ++ (List.replicate k its).flatten = acc ++ (List.replicate (k + 1) its).flatten := by
      rw [List.replicate_succ, List.flatten_cons, List.append_assoc]
    rw [← e2, ← foldl_rep its k (acc ++ its), ← e, List.replicate_succ, List.foldl_cons]
section
variable {X : Cx} {pins : List (Addr × Obj)} {σ : St} {H : Hp} {s : Shared} {l b : Addr} {xs ys zs : List V}
/-! ### the two steps: a tracked list is rewritten, a new list is laid -/
theorem Inv.lset {its its' : List Value} {n : Nat} {f : Array Value → Array Value} {t' : Nat} (I : Inv X pins σ H s) (hH : H l = some (.lst xs))
    (e : s.heap.get? l = some { cls := .type "list", data := .seq its.toArray n }) (hf : f its.toArray = its'.toArray) (hv : Vals ys its') (hz : ys.length ≤ sizeLine) (ht : s.toks ≤ t' := by first | exact Nat.le_refl _ | exact Nat.le_succ _ | assumption | omega) :
    Inv X pins σ (upd H l (.lst ys)) { s with heap := s.heap.update l (Obj.mapSeq f), toks := t' } := by
  have q := PySem.IsL.update e f
  rw [hf] at q
  refine I.write (x := l) (e := l) (by rw [hH]; exact trivial) (.inl rfl) (fun b' u hb hu => (Heap.get?_update_other s.heap (Obj.mapSeq f) (Ne.symm hb)).trans hu) ⟨_, q⟩ ?_
  exact ⟨hz, its', _, hv, q⟩
theorem Inv.lnew {its : List Value} {t' : Nat} (I : Inv X pins σ H s) (hv : Vals ys its) (hz : ys.length ≤ sizeLine) (ht : s.toks ≤ t' := by first | exact Nat.le_refl _ | exact Nat.le_succ _ | assumption | omega) :
    Inv X pins σ (upd H s.heap.objs.size (.lst ys)) { s with heap := s.heap.push { cls := .type "list", data := .seq its.toArray }, toks := t' } :=
  I.laid (fun _ _ q => Heap.get?_push_of_some _ q) (Nat.le_refl _) ⟨hz, its, 0, hv, Heap.get?_push_size _ rfl⟩
theorem Inv.fresh (I : Inv X pins σ H s) : H s.heap.objs.size = none := I.hok.fresh (Nat.le_refl _)
theorem Inv.lstM (I : Inv X pins σ H s) (hH : H l = some (.lst xs)) : xs.length ≤ sizeLine ∧ ∃ (its : List Value) (n : Nat), Vals xs its ∧ xs.length = its.length ∧ s.heap.get? l = some { cls := .type "list", data := .seq its.toArray n } := by
  obtain ⟨z, its, n, r, e⟩ := I.hok l _ hH
  exact ⟨z, its, n, r, r.length, e⟩
theorem notLongL {n : Nat} (h : n ≤ sizeLine) : Builtin.List.listTooLong n = false := by
  unfold Builtin.List.listTooLong
  exact decide_eq_false (by omega)
end
section
variable {X : Cx}
/-! ### methods -/
def rAppend : V → List V → Hp → VK → Prop := fun x vs H Q => ∃ l xs y, x = .ref l ∧ vs = [y] ∧ H l = some (.lst xs) ∧ xs.length < sizeLine ∧ Q .non (upd H l (.lst (xs ++ [y])))
theorem mt_append : MtM X "list.append" rAppend := by
  intro pins s σ H x vs v us Q I rx rv h
  obtain ⟨l, xs, y, rfl, rfl, hH, hz, q⟩ := h
  cases rx
  obtain ⟨u, rfl, ru⟩ := rv.one
  obtain ⟨z, its, n, r, hl, e⟩ := I.lstM hH
  refine call_meets F.slot_list_append ⟨_, e, rfl⟩ F.entry_list_append (F.args_list_append_2 _ _) (PySem.list_append l its.toArray n u (by rw [List.size_toArray]; omega)) ⟨e, ?_⟩
  refine ⟨.non, _, I.lset (its' := its ++ [u]) hH e (by simp) (r.append (.cons ru .nil)) ?_, rfl, q⟩
  rw [List.length_append, List.length_singleton]
  omega
def rExtend : V → List V → Hp → VK → Prop := fun x vs H Q => ∃ l b xs zs, x = .ref l ∧ vs = [.ref b] ∧ H l = some (.lst xs) ∧ H b = some (.lst zs) ∧ xs.length + zs.length ≤ sizeLine ∧ Q .non (upd H l (.lst (xs ++ zs)))
theorem mt_extend : MtM X "list.extend" rExtend := by
  intro pins s σ H x vs v us Q I rx rv h
  obtain ⟨l, b, xs, zs, rfl, rfl, hH, hB, hz, q⟩ := h
  cases rx
  obtain ⟨u, rfl, ru⟩ := rv.one
  cases ru
  obtain ⟨z, its, n, r, hl, e⟩ := I.lstM hH
  obtain ⟨z2, its2, n2, r2, hl2, e2⟩ := I.lstM hB
  have hsz : its.toArray.size + its2.toArray.size ≤ sizeLine := by rw [List.size_toArray, List.size_toArray]; omega
  have hlong : ¬ (!its.toArray.isEmpty && Builtin.List.listTooLong (its.toArray.size + its2.toArray.size)) = true := by
    rw [notLongL hsz, Bool.and_false]
    exact Bool.false_ne_true
  refine call_meets F.slot_list_extend ⟨_, e, rfl⟩ F.entry_list_extend (F.args_list_extend_2 _ _)
    (AutoSeq1.list_extend_list_list_0 l its.toArray n b its2.toArray n2 hlong (by rw [List.size_toArray]; omega) (by omega)) ⟨e, e2, ?_⟩
  refine ⟨.non, _, I.lset (its' := its ++ its2) hH e (by simp) (r.append r2) ?_, rfl, q⟩
  rw [List.length_append]
  omega
def rRep : R2 := fun x y H Q => ∃ l k xs, x = .ref l ∧ y = .int k ∧ H l = some (.lst xs) ∧ -(2 ^ 63) ≤ k ∧ k < 2 ^ 63 ∧ xs.length * k.toNat ≤ sizeLine ∧
  ∀ p, H p = none → Q (.ref p) (upd H p (.lst (List.replicate k.toNat xs).flatten))
theorem len_rep {α : Type} (xs : List α) (k : Nat) : (List.replicate k xs).flatten.length = k * xs.length := by
  induction k with
  | zero => simp
  | succ k ih => rw [List.replicate_succ, List.flatten_cons, List.length_append, ih, Nat.succ_mul, Nat.add_comm]
theorem op_rep : OpR X (binaryOp .Mult) rRep := by
  intro pins s σ H x y v u Q I rx ry h
  obtain ⟨l, k, xs, rfl, rfl, hH, h1, h2, hz, q⟩ := h
  cases rx
  obtain ⟨t, rfl⟩ := ry
  obtain ⟨z, its, n, r, hl, e⟩ := I.lstM hH
  have hlen : its.toArray.size * k.toNat ≤ sizeLine := by rw [List.size_toArray, ← hl]; exact hz
  have hcap : ¬ its.toArray.size * k.toNat > (2 ^ 63 - 1) / 8 := by
    have : (sizeLine : Nat) ≤ (2 ^ 63 - 1) / 8 := by decide
    omega
  have hfit : ¬ (!Builtin.List.listFitsIndex k) = true := by
    rw [fitsIndex_both h1 h2]
    exact Bool.false_ne_true
  have hlong : ¬ Builtin.List.listTooLong (its.toArray.size * k.toNat) = true := by
    rw [notLongL hlen]
    exact Bool.false_ne_true
  have hnew : List.foldl (fun x1 x2 => x1 ++ x2) #[] (List.replicate (if its.toArray.isEmpty = true then 0 else k.toNat) its.toArray) = (List.replicate k.toNat its).flatten.toArray := by
    have f0 : ∀ m : Nat, List.foldl (fun x1 x2 => x1 ++ x2) #[] (List.replicate m its.toArray) = (List.replicate m its).flatten.toArray := fun m => by
      have := foldl_rep its m []
      rw [List.nil_append] at this
      exact this
    rw [f0]
    cases its with
    | nil => simp
    | cons a r' => rw [if_neg (by simp)]
  refine wpAny_binaryOp_repeat_ref (T := "list") (U := "int") (by decide) ⟨_, e, rfl⟩ (fun s' => typeIs_int s' k t) noFill_list_mul F.fills_int_mul F.slot_int_rmul repeat_list F.slot_int_index.lookup
    (call_meets F.slot_int_rmul (typeIs_int s k t) F.entry_int_rmul (F.args_int_rmul_2 _ _) (int___rmul___int_list k t l its.toArray n)
      ⟨e, rfl, ⟨_, e, rfl⟩, call_meets F.slot_list_mul ⟨_, e, rfl⟩ F.entry_list_mul (F.args_list_mul_2 _ _) (AutoListH.list___mul___list_int_3 l its.toArray n k t hfit hcap hlong) ⟨e, ?_⟩⟩)
  rw [hnew]
  exact ⟨.ref _, _, I.lnew (t' := s.toks) (r.rep k.toNat) (by rw [len_rep, Nat.mul_comm]; exact hz), rfl, q _ I.fresh⟩
end
section
variable {prog : Program} {w : World} {A : Around} {E : Value → Shared → Prop} {s : Shared}
end
section
variable {X : Cx}
end
end L2
namespace L2
open PySem PySem.Spec PyProof.Rows
section
variable {κ : Type} [DecidableEq κ]
def valV (kvs : List (κ × V)) (k : κ) : Option V := (kvs.find? fun kv => decide (kv.1 = k)).map (·.2)
def putK (kvs : List (κ × V)) (k : κ) (v : V) : List (κ × V) :=
  if (kvs.any fun kv => decide (kv.1 = k)) = true then kvs.map (fun kv => if kv.1 = k then (kv.1, v) else kv) else kvs ++ [(k, v)]
theorem valV_pos {p : κ × V} {r : List (κ × V)} {k : κ} (e : p.1 = k) : valV (p :: r) k = some p.2 := by simp [valV, List.find?_cons, e]
theorem valV_neg {p : κ × V} {r : List (κ × V)} {k : κ} (e : ¬ p.1 = k) : valV (p :: r) k = valV r k := by simp [valV, List.find?_cons, e]
theorem valV_any (k : κ) : ∀ kvs : List (κ × V), (kvs.any fun kv => decide (kv.1 = k)) = (valV kvs k).isSome
  | [] => rfl
  | p :: r => by
    rw [List.any_cons]
    by_cases e : p.1 = k
    · simp only [valV_pos e, decide_eq_true e, Bool.true_or, Option.isSome_some]
    · rw [valV_neg e, decide_eq_false e, Bool.false_or]; exact valV_any k r
theorem valV_map (k j : κ) (y : V) : ∀ kvs : List (κ × V), valV (kvs.map fun kv => if kv.1 = k then (kv.1, y) else kv) j = (valV kvs j).map fun x => if j = k then y else x
  | [] => rfl
  | p :: r => by
    have ih := valV_map k j y r
    rw [List.map_cons]
    by_cases h : p.1 = k
    · rw [if_pos h]
      by_cases e : p.1 = j
      · rw [valV_pos (p := (p.1, y)) e, valV_pos e, Option.map_some, if_pos (e.symm.trans h)]
      · rw [valV_neg (p := (p.1, y)) e, valV_neg e, ih]
    · rw [if_neg h]
      by_cases e : p.1 = j
      · rw [valV_pos (p := p) e, valV_pos e, Option.map_some, if_neg (fun z => h (e.trans z))]
      · rw [valV_neg (p := p) e, valV_neg e, ih]
theorem valV_snoc (k j : κ) (y : V) : ∀ kvs : List (κ × V), valV kvs k = none → valV (kvs ++ [(k, y)]) j = if j = k then some y else valV kvs j
  | [], _ => by
    by_cases e : k = j
    · rw [if_pos e.symm]; exact valV_pos (p := (k, y)) e
    · rw [if_neg (fun z => e z.symm)]; exact valV_neg (p := (k, y)) e
  | p :: r, hn => by
    rw [List.cons_append]
    have hk : ¬ p.1 = k := fun z => by rw [valV_pos z] at hn; cases hn
    rw [valV_neg hk] at hn
    have ih := valV_snoc k j y r hn
    by_cases e : p.1 = j
    · rw [valV_pos e, valV_pos e, if_neg (fun z => hk (e.trans z))]
    · rw [valV_neg e, valV_neg e, ih]
theorem valV_put (kvs : List (κ × V)) (k j : κ) (y : V) : valV (putK kvs k y) j = if j = k then some y else valV kvs j := by
  unfold putK
  by_cases a : (kvs.any fun kv => decide (kv.1 = k)) = true
  · rw [if_pos a, valV_map]
    rw [valV_any] at a
    by_cases e : j = k
    · obtain ⟨x, hx⟩ := Option.isSome_iff_exists.mp a
      rw [if_pos e, e, hx, Option.map_some, if_pos rfl]
    · rw [if_neg e]
      cases valV kvs j with
      | none => rfl
      | some x => rw [Option.map_some, if_neg e]
  · rw [if_neg a]
    refine valV_snoc k j y kvs ?_
    rw [valV_any] at a
    cases q : valV kvs k with
    | none => rfl
    | some x => rw [q] at a; exact (a rfl).elim
theorem length_putK (kvs : List (κ × V)) (k : κ) (v : V) : (putK kvs k v).length ≤ kvs.length + 1 := by
  unfold putK
  split
  · rw [List.length_map]; omega
  · rw [List.length_append, List.length_cons, List.length_nil]; omega
theorem RelO.isSome_eq {o : Option V} {u : Option Value} (r : RelO o u) : o.isSome = u.isSome := by
  cases o with
  | none => cases u with
    | none => rfl
    | some _ => exact (show False from r).elim
  | some _ => cases u with
    | none => exact (show False from r).elim
    | some _ => rfl
theorem KV.val {kvs : List (κ × V)} {vs : List (κ × Value)} (r : KV kvs vs) (k : κ) : RelO (valV kvs k) (valueAt vs k) := by
  unfold KV at r
  induction r with
  | nil => exact True.intro
  | @cons p q ps qs h t ih =>
    obtain ⟨h1, h2⟩ := h
    by_cases e : p.1 = k
    · have e' : q.1 = k := h1.symm.trans e
      have b : valueAt (q :: qs) k = some q.2 := by simp [valueAt, List.find?_cons, e']
      rw [valV_pos e, b]; exact h2
    · have e' : ¬ q.1 = k := fun z => e (h1.trans z)
      have b : valueAt (q :: qs) k = valueAt qs k := by simp [valueAt, List.find?_cons, e']
      rw [valV_neg e, b]; exact ih
theorem KV.any {kvs : List (κ × V)} {vs : List (κ × Value)} (r : KV kvs vs) (k : κ) : (kvs.any fun kv => decide (kv.1 = k)) = vs.any fun kv => decide (kv.1 = k) := by
  unfold KV at r
  induction r with
  | nil => rfl
  | cons h t ih => rw [List.any_cons, List.any_cons, ih, h.1]
theorem KV.repl {kvs : List (κ × V)} {vs : List (κ × Value)} (r : KV kvs vs) (k : κ) {y : V} {u : Value} (ry : RelV y u) :
    KV (kvs.map fun kv => if kv.1 = k then (kv.1, y) else kv) (vs.map fun kv => if kv.1 = k then (kv.1, u) else kv) := by
  unfold KV at r ⊢
  induction r with
  | nil => exact .nil
  | @cons p q ps qs h t ih =>
    rw [List.map_cons, List.map_cons]
    refine .cons ?_ ih
    obtain ⟨h1, h2⟩ := h
    by_cases e : p.1 = k
    · rw [if_pos e, if_pos (h1.symm.trans e)]; exact ⟨h1, ry⟩
    · rw [if_neg e, if_neg (fun z => e (h1.trans z))]; exact ⟨h1, h2⟩
theorem KV.put {kvs : List (κ × V)} {vs : List (κ × Value)} (r : KV kvs vs) (k : κ) {y : V} {u : Value} (ry : RelV y u) : KV (putK kvs k y) (stored vs k u) := by
  unfold putK stored
  rw [r.any k]
  by_cases e : (vs.any fun kv => decide (kv.1 = k)) = true
  · rw [if_pos e, if_pos e]; exact r.repl k ry
  · rw [if_neg e, if_neg e]; exact Paired.snoc r ⟨rfl, ry⟩
theorem KV.length {kvs : List (κ × V)} {vs : List (κ × Value)} (r : KV kvs vs) : kvs.length = vs.length := Paired.length r
end
/-! ### a tracked dict, its keys ints and texts or tuples of these -/
theorem kV_is {P : Program} {w : World} {k : Key} {u : Value} (r : RelV (kV k) u) : (mixKind P w).is k u = true := by
  cases k with
  | inl i => obtain ⟨t, e⟩ := (show ∃ t, u = Value.int i t from r); subst e; exact mixKind_int P w i t
  | inr x => obtain ⟨t, e⟩ := (show ∃ t, u = Value.str x t from r); subst e; exact mixKind_str P w x t
theorem items_are {P : Program} {w : World} : ∀ {ks : List Key} {us : List Value}, Vals (ks.map kV) us → ItemsAre (mixKind P w) ks us
  | [], _, r => by rw [List.map_nil] at r; cases r; exact .nil
  | k :: ks, _, r => by
    rw [List.map_cons] at r
    cases r with
    | cons h t => exact .cons (kV_is h) (items_are t)
abbrev KT (H : Hp) : List (List Key × V) → List (List Key × Addr × Value) → Prop := Paired fun p q => p.1 = q.1 ∧ H q.2.1 = some (.tup (p.1.map kV)) ∧ RelV p.2 q.2.2
theorem KT.val {H : Hp} {kvs : List (List Key × V)} {xs : List (List Key × Addr × Value)} (r : KT H kvs xs) (k : List Key) : RelO (valV kvs k) ((atKey xs k).map (·.2)) := by
  induction r with
  | nil => exact True.intro
  | @cons p q ps qs h t ih =>
    obtain ⟨h1, _, h2⟩ := h
    by_cases e : p.1 = k
    · have e' : q.1 = k := h1.symm.trans e
      have b : atKey (q :: qs) k = some q.2 := by simp [atKey, List.find?_cons, e']
      rw [valV_pos e, b]; exact h2
    · have e' : ¬ q.1 = k := fun z => e (h1.trans z)
      have b : atKey (q :: qs) k = atKey qs k := by simp [atKey, List.find?_cons, e']
      rw [valV_neg e, b]; exact ih
theorem KT.repl {H : Hp} {kvs : List (List Key × V)} {xs : List (List Key × Addr × Value)} (r : KT H kvs xs) (k : List Key) {y : V} {u : Value} (ry : RelV y u) :
    KT H (kvs.map fun kv => if kv.1 = k then (kv.1, y) else kv) (xs.map (putAt k u)) := by
  induction r with
  | nil => exact .nil
  | @cons p q ps qs h t ih =>
    rw [List.map_cons, List.map_cons]
    refine .cons ?_ ih
    obtain ⟨h1, h2, h3⟩ := h
    unfold putAt
    by_cases e : p.1 = k
    · rw [if_pos e, if_pos (h1.symm.trans e)]; exact ⟨h1, h2, ry⟩
    · rw [if_neg e, if_neg (fun z => e (h1.trans z))]; exact ⟨h1, h2, h3⟩
theorem KT.put {H : Hp} {kvs : List (List Key × V)} {xs : List (List Key × Addr × Value)} (r : KT H kvs xs) (k : List Key) {b : Addr} {y : V} {u : Value} (hb : H b = some (.tup (k.map kV))) (ry : RelV y u) :
    KT H (putK kvs k y) (storedH xs k b u) := by
  have e : (kvs.any fun kv => decide (kv.1 = k)) = (atKey xs k).isSome := by
    rw [valV_any, (r.val k).isSome_eq, Option.isSome_map]
  unfold putK storedH
  rw [e]
  by_cases q : (atKey xs k).isSome = true
  · rw [if_pos q, if_pos q]; exact r.repl k ry
  · rw [if_neg q, if_neg q]; exact Paired.snoc r ⟨rfl, hb, ry⟩
theorem KT.keeps {H H' : Hp} {kvs : List (List Key × V)} {xs : List (List Key × Addr × Value)} (r : KT H kvs xs) (ht : ∀ b ys, H b = some (.tup ys) → H' b = some (.tup ys)) : KT H' kvs xs :=
  Paired.mapP r fun _ _ z => ⟨z.1, ht _ _ z.2.1, z.2.2⟩
section
variable {P : Program} {w : World} {H : Hp} {h : Heap} {a : Addr}
theorem rd_of {u : HO} (ok : HOk P w H h) (e : Rd H a u) : ObjOk P w H h a u := e.ok ok
theorem dk_rd {kvs : List (Key × V)} (ok : HOk P w H h) (e : Rd H a (.dK kvs)) : kvs.length ≤ sizeLine ∧ (a == sysModules) = false ∧ ∃ vs, KV kvs vs ∧ h.DictOf (mixKind P w) a vs :=
  show ObjOk P w H h a (.dK kvs) from rd_of ok e
theorem dk_of {kvs : List (Key × V)} (ok : HOk P w H h) (e : H a = some (.dK kvs)) : kvs.length ≤ sizeLine ∧ (a == sysModules) = false ∧ ∃ vs, KV kvs vs ∧ h.DictOf (mixKind P w) a vs := dk_rd ok (.inl e)
theorem key_of {ks : List Key} (ok : HOk P w H h) (e : H a = some (.tup (ks.map kV))) : (tupleKind (mixKind P w)).is h ks a := by
  obtain ⟨_, its, r, o, h1, h2, n, h3⟩ := (show ObjOk P w H h a (.tup (ks.map kV)) from ok a _ e)
  exact ⟨o, its.toArray, n, h1, h2, h3, by simpa using items_are r⟩
theorem dt_rd {kvs : List (List Key × V)} (ok : HOk P w H h) (e : Rd H a (.dT kvs)) : kvs.length ≤ sizeLine ∧ (a == sysModules) = false ∧
    ∃ xs, KT H kvs xs ∧ h.DictOfH (tupleKind (mixKind P w)) a xs := by
  obtain ⟨z, y, xs, r, o, es, ep, h1, h2, h3, h4, h5⟩ := (show ObjOk P w H h a (.dT kvs) from rd_of ok e)
  refine ⟨z, y, xs, r, o, es, ep, h1, h2, h3, h4, fun x hx => ?_, h5⟩
  have all : ∀ {l : List (List Key × V)} {m : List (List Key × Addr × Value)}, KT H l m → ∀ x ∈ m, (tupleKind (mixKind P w)).is h x.1 x.2.1 := by
    intro l m q
    induction q with
    | nil => intro x hx; exact nomatch hx
    | @cons p q ps qs hq t ih =>
      intro x hx
      rcases List.mem_cons.mp hx with e | hx
      · subst e
        exact key_of ok (by rw [← hq.1]; exact hq.2.1)
      · exact ih x hx
  exact all r x hx
theorem dt_of {kvs : List (List Key × V)} (ok : HOk P w H h) (e : H a = some (.dT kvs)) : kvs.length ≤ sizeLine ∧ (a == sysModules) = false ∧
    ∃ xs, KT H kvs xs ∧ h.DictOfH (tupleKind (mixKind P w)) a xs := dt_rd ok (.inl e)
end
def DGet (H : Hp) (a : Addr) (y : V) (r : Option V) : Prop :=
  (∃ kvs k, Rd H a (.dK kvs) ∧ y = kV k ∧ r = valV kvs k) ∨ ∃ kvs k b, Rd H a (.dT kvs) ∧ y = .ref b ∧ H b = some (.tup (k.map kV)) ∧ r = valV kvs k
def DPut (H : Hp) (a : Addr) (y v : V) (H' : Hp) : Prop :=
  (∃ kvs k, H a = some (.dK kvs) ∧ y = kV k ∧ kvs.length < sizeLine ∧ H' = upd H a (.dK (putK kvs k v))) ∨
  ∃ kvs k b, H a = some (.dT kvs) ∧ y = .ref b ∧ H b = some (.tup (k.map kV)) ∧ kvs.length < sizeLine ∧ H' = upd H a (.dT (putK kvs k v))
theorem DGet.t {H : Hp} {a b : Addr} {kvs : List (List Key × V)} {k : List Key} (e : H a = some (.dT kvs)) (eb : H b = some (.tup (k.map kV))) : DGet H a (.ref b) (valV kvs k) := .inr ⟨kvs, k, b, .inl e, rfl, eb, rfl⟩
theorem DPut.t {H : Hp} {a b : Addr} {kvs : List (List Key × V)} {k : List Key} {v : V} (e : H a = some (.dT kvs)) (eb : H b = some (.tup (k.map kV))) (hl : kvs.length < sizeLine) :
    DPut H a (.ref b) v (upd H a (.dT (putK kvs k v))) := .inr ⟨kvs, k, b, e, rfl, eb, hl, rfl⟩
section
variable {X : Cx} {pins : List (Addr × Obj)} {σ : St} {H : Hp} {s : Shared} {a : Addr} {y v : V} {u r : Value} {o : Option V} {A : Around} {E : Value → Shared → Prop}
theorem Inv.big (I : Inv X pins σ H s) : sysModules < s.heap.objs.size := by
  have h : mainGlobals < s.heap.objs.size := (I.mod.glob.keeps I.bk).lt
  exact Nat.lt_trans (by decide) h
theorem d_getItem {Q : Value → Shared → Prop} (hu : A.units + 1 < cLine) (I : Inv X pins σ H s) (g : DGet H a y (some v)) (ry : RelV y u) (h : ∀ w' s', Inv X pins σ H s' → RelV v w' → Q w' s') :
    wpAny (model X.prog X.w) A (getItem (.ref a) u) Q E s := by
  rcases g with ⟨kvs, k, e, ey, l⟩ | ⟨kvs, k, b, e, ey, eb, l⟩
  · subst ey
    obtain ⟨z, hd, vs, rel, dd⟩ := dk_rd I.hok e
    obtain ⟨w', hw, rw'⟩ := RelO.some_of (v := v) (o := valueAt vs k) (by rw [l]; exact rel.val k)
    exact wpAny_getItem_of (kV_is ry) dd.mapOf hw (h w' _ (I.tok _) rw')
  · subst ey
    cases (show u = Value.ref b from ry)
    obtain ⟨z, hd, xs, rel, dd⟩ := dt_rd I.hok e
    obtain ⟨w', hw, rw'⟩ := RelO.some_of (v := v) (o := (atKey xs k).map (·.2)) (by rw [l]; exact rel.val k)
    obtain ⟨p, hp, hp2⟩ := Option.map_eq_some_iff.mp hw
    refine wpAny_getItem_heap (tupleKind_room_in1 hu) (key_of I.hok eb) dd hp ?_
    rw [hp2]
    exact h w' _ (I.tok _) rw'
theorem d_write {h' : Heap} {t' : Nat} {ob : HO} (I : Inv X pins σ H s) (mu : Mut (H a)) (hs : Heap.SameBut a s.heap h') (he : ∃ q, h'.get? a = some q) (new : ObjOk X.prog X.w (upd H a ob) h' a ob) (ht : s.toks ≤ t' := by first | exact Nat.le_refl _ | exact Nat.le_succ _ | assumption | omega) :
    Inv X pins σ (upd H a ob) { s with heap := h', toks := t' } :=
  I.write (x := a) (e := a) mu (.inl rfl) (fun b q hb z => (hs.2 b hb).trans z) he new
theorem dk_new {P : Program} {w : World} {H' : Hp} {h' : Heap} {kvs : List (Key × V)} {vs : List (Key × Value)} (z : kvs.length ≤ sizeLine) (hd : (a == sysModules) = false) (rel : KV kvs vs) (dd : h'.DictOf (mixKind P w) a vs) :
    ObjOk P w H' h' a (.dK kvs) := ⟨z, hd, vs, rel, dd⟩
theorem d_setItem {H' : Hp} {Q : Unit → Shared → Prop} (hu : A.units + 1 < cLine) (I : Inv X pins σ H s) (g : DPut H a y v H') (ry : RelV y u) (rv : RelV v r) (h : ∀ s', Inv X pins σ H' s' → Q () s') :
    wpAny (model X.prog X.w) A (setItem (.ref a) u r) Q E s := by
  rcases g with ⟨kvs, k, e, ey, l, eH⟩ | ⟨kvs, k, b, e, ey, eb, l, eH⟩
  · subst ey eH
    obtain ⟨z, hd, vs, rel, dd⟩ := dk_of I.hok e
    have hz : vs.length ≤ sizeLine := by rw [← rel.length]; exact z
    have hl : (putK kvs k v).length ≤ sizeLine := by have := length_putK kvs k v; omega
    refine wpAny_setItem_pairs (hsz := hz) (kV_is ry) dd fun h' dd' hs => h _ ?_
    have he : ∃ q, h'.get? a = some q := let ⟨q, _, _, hq, _⟩ := dd'; ⟨q, hq⟩
    exact d_write I (by rw [e]; exact True.intro) hs he (dk_new hl hd (rel.put k rv) dd')
  · subst ey eH
    cases (show u = Value.ref b from ry)
    obtain ⟨z, hd, xs, rel, dd⟩ := dt_of I.hok e
    have hz : xs.length ≤ sizeLine := by rw [← Paired.length rel]; exact z
    have hl : (putK kvs k v).length ≤ sizeLine := by have := length_putK kvs k v; omega
    refine wpAny_setItem_heap (hsz := hz) (tupleKind_room_in1 hu) (key_of I.hok eb) dd fun h' dd' hs => h _ ?_
    obtain ⟨q, es, ep, hq, h2, h3, h4, _, h5⟩ := dd'
    refine d_write I (by rw [e]; exact True.intro) hs ⟨q, hq⟩ ⟨hl, hd, _, (rel.put k eb rv).keeps fun c ys ec => ?_, q, es, ep, hq, h2, h3, h4, h5⟩
    rw [upd_ne (ne_of ec e (fun z => nomatch z))]
    exact ec
end
section
variable {X : Cx} {pins : List (Addr × Obj)} {σ : St} {H : Hp} {s : Shared} {a : Addr} {kvs : List (Key × V)} {k : Key} {u : Value} {A : Around} {E : Value → Shared → Prop}
end
/-! ### readings and rules -/
def NoSl (i : Expr) : Prop := ∀ ov iv, subscripted i false ov iv = operate [ov, iv] (getItem ov iv)
theorem subD_of {prog : Program} {w : World} {A : Around} {E : Value → Shared → Prop} {s : Shared} {env : Env} {value slice : Expr} {pos : Pos} {T id : String} {Q : Value → Shared → Prop}
    (hl : typeLookup (.type T) "__getitem__" = pure (some (.builtin id))) (hs : NoSl slice)
    (h : wpAny (model prog w) A (eval value env) (fun o s₁ => wpAny (model prog w) A (eval slice env) (fun i s₂ => s₂.TypeIs o T ∧ wpAny (model prog w) A (getItem o i) Q E s₂) E s₁) E s) :
    wpAny (model prog w) A (eval (.Subscript value slice pos) env) Q E s := by
  refine Subscript_ (wpAny_mono h (fun o s₁ h₁ => wpAny_mono h₁ (fun i s₂ h₂ => ?_) fun _ _ x => x) fun _ _ x => x)
  obtain ⟨hT, h₂⟩ := h₂
  unfold subscriptTail
  refine wpAny_bind ?_
  rw [getitemInPython_of_ne hT.not_modules]
  refine wpAny_bind (wpAny_specialOf hT hl ?_)
  have fin : wpAny (model prog w) A (subscripted slice false o i) (fun r s₃ => wpAny (model prog w) A (letTemporaryGo value o r >>= fun _ => pure r) Q E s₃) E s₂ := by
    rw [hs o i]
    exact wpAny_operating (wpAny_mono h₂ (fun r s₃ h₃ => wpAny_bind (wpAny_letTemporaryGo (wpAny_pure h₃))) fun _ _ x => x)
  first
    | exact wpAny_pure (wpAny_bind fin)
    | exact wpAny_bind (wpAny_pure (wpAny_bind fin))
    | exact wpAny_bind fin
theorem dict_typeIs {X : Cx} {pins : List (Addr × Obj)} {σ : St} {H : Hp} {s : Shared} {a : Addr} {y : V} {o : Option V} (I : Inv X pins σ H s) (g : DGet H a y o) : s.TypeIs (.ref a) "dict" := by
  rcases g with ⟨kvs, k, e, _, _⟩ | ⟨kvs, k, b, e, _, _, _⟩
  · obtain ⟨_, _, vs, _, dd⟩ := dk_rd I.hok e
    exact dd.typeIs
  · obtain ⟨_, _, xs, _, dd⟩ := dt_rd I.hok e
    exact dd.typeIs
def tDGet (td ty : TE) : TE := fun σ H Q => td σ H fun x H1 => ty σ H1 fun y H2 => ∃ a v, x = .ref a ∧ DGet H2 a y (some v) ∧ Q v H2
def sDPut (td ty tv : TE) : TS := fun D σ H => tv σ H fun v H1 => td σ H1 fun x H2 => ty σ H2 fun y H3 => ∃ a H4, x = .ref a ∧ DPut H3 a y v H4 ∧ D.nx σ H4
section
variable {X : Cx} {o i e value : Expr} {pos pos' tpos : Pos} {td ty tv : TE}
theorem pe_dget (hu : X.A.units + 1 < cLine) (ho : PE X o td) (hi : PE X i ty) (hs : NoSl i) : PE X (.Subscript o i pos) (tDGet td ty) := by
  intro pins s σ H Q I h
  refine subD_of PySem.F.slot_dict_getitem.lookup hs (thn (ho pins s σ H _ I h) fun u s1 ⟨x, H1, I1, rx, q1⟩ => thn (hi pins s1 σ H1 _ I1 q1) fun iv s2 ⟨y, H2, I2, ry, a, v, ex, g, q2⟩ => ?_)
  subst ex
  obtain rfl : u = Value.ref a := rx
  exact ⟨dict_typeIs I2 g, d_getItem hu I2 g ry fun w' s3 I3 rw' => ⟨v, H2, I3, rw', q2⟩⟩
theorem ps_dput (hu : X.A.units + 1 < cLine) (ho : PE X o td) (hi : PE X i ty) (hv : PE X value tv) (hs : swapsWith value (some (.Subscript o i pos')) pos.line X.env = pure false) :
    PS X (.Assign [.Subscript o i pos'] value pos) (sDPut td ty tv) := by
  intro pins s σ H D I h
  refine wpAny_Assign_Subscript (thn (hv pins s σ H _ I h) fun r s1 ⟨v, H1, I1, rv, q1⟩ => thn (ho pins s1 σ H1 _ I1 q1) fun u s2 ⟨x, H2, I2, rx, q2⟩ => thn (hi pins s2 σ H2 _ I2 q2) fun iv s3 ⟨y, H3, I3, ry, a, H4, ex, g, q3⟩ => ?_) hs
  subst ex
  obtain rfl : u = Value.ref a := rx
  exact d_setItem hu I3 g ry rv fun s4 I4 => ⟨σ, H4, I4, q3⟩
end
theorem dt_empty {P : Program} {w : World} {H : Hp} (h : Heap) (hb : sysModules < h.objs.size) : ObjOk P w H (h.push { cls := .type "dict", data := .dict #[] }) h.objs.size (.dT []) :=
  ⟨Nat.zero_le _, beq_eq_false_iff_ne.mpr (Ne.symm (Nat.ne_of_lt hb)), [], .nil, _, #[], 0, Heap.get?_push_size _ rfl, ⟨rfl, rfl, rfl⟩, rfl, rfl, List.nodup_nil⟩
def tDNewT : TE := fun _ H Q => ∀ p, H p = none → Q (.ref p) (upd H p (.dT []))
section
variable {X : Cx} {pos : Pos}
theorem pe_dnewT : PE X (.Dict [] [] pos) tDNewT := fun pins s σ H Q I h =>
  wpAny_Dict_empty ⟨.ref s.heap.objs.size, _, I.laid (a := s.heap.objs.size) (o := .dT []) (t' := s.toks) (fun _ _ q => Heap.get?_push_of_some _ q) (Nat.le_refl _) (dt_empty s.heap I.big), rfl, h _ (I.hok.fresh (Nat.le_refl _))⟩
end
section
variable {X : Cx} {pins : List (Addr × Obj)} {σ : St} {H : Hp} {s : Shared} {a : Addr} {y d : V} {u r : Value} {o : Option V} {A : Around} {E : Value → Shared → Prop}
end
section
variable {X : Cx} {o e f : Expr} {apos cpos : Pos} {td ty tx : TE}
end
section
variable {X : Cx} {pins : List (Addr × Obj)} {σ : St} {H : Hp} {s : Shared} {a : Addr} {kvs : List (Key × V)} {A : Around} {E : Value → Shared → Prop}
end
section
variable {X : Cx} {pins : List (Addr × Obj)} {σ : St} {H : Hp} {s : Shared} {a : Addr} {y : V} {u : Value} {A : Around} {E : Value → Shared → Prop}
end
end L2
namespace Att
open PySem PySem.W PySem.Calls PyProof.Rows
/-! ### the script -/
theorem ints_of_wellAll {P : Params} {h : Heap} : ∀ (ns : List Int) (vs : List Value), WellAll P h vs (ns.map WData.int) → IntsAre vs ns := by
  intro ns
  induction ns with
  | nil =>
    intro vs w
    rw [List.map_nil] at w
    cases w
    exact .nil
  | cons n ns ih =>
    intro vs w
    rw [List.map_cons] at w
    cases w with
    | cons a b =>
      cases a
      exact .cons _ _ (ih _ b)
theorem script_of {l : OpenLaw} {n : Nat} (hn : l.most = some n) {P : Params} {h : Heap} {args : List WData} {vals : List Value}
    (hpre : l.row.toRowW.claim.pre args = true) (hwl : WellAll P h vals args) :
    ∃ a vs ns, vals = [Value.ref a] ∧ args = [WData.list (ns.map WData.int)] ∧ h.get? a = some { cls := .type "list", data := .seq vs.toArray } ∧ IntsAre vs ns ∧ ns.length ≤ n := by
  have hsh : WShape.hasAll [] args [.list .int] = true := (pre_splitW hpre).1
  have hc : l.pre.holds [] { args := args } = true := (pre_splitW hpre).2
  obtain ⟨d, r, rfl, h1, h2⟩ := hasAllW_cons hsh
  obtain rfl := hasAllW_nil h2
  obtain ⟨xs, rfl, h3⟩ := hasW_list h1
  obtain ⟨ns, rfl⟩ := items_int h3
  have hlen : ns.length ≤ n := by
    unfold OpenLaw.pre at hc
    have h4 : (WTm.not (.lt (.lit (.int (n : Int))) (.len (.arg 0)))).holds [] { args := [.list (ns.map .int)] } = true := by
      have h4 := (holds_andW hc).1
      rw [hn] at h4
      exact h4
    have h5 := condW_of h4 (w_not (w_lt w_lit (w_len_list (w_arg rfl))))
    rw [List.length_map] at h5
    refine Nat.le_of_not_lt fun q => ?_
    have q' : (n : Int) < ((ns.length : Nat) : Int) := by omega
    first
      | (rw [decide_eq_true q'] at h5; exact absurd h5 (by decide))
      | (simp at h5; omega)
  cases hwl with
  | cons w1 w2 =>
    cases w2
    cases w1 with
    | list ho hall => exact ⟨_, _, ns, rfl, rfl, ho, ints_of_wellAll ns _ hall, hlen⟩
theorem post_true (l : OpenLaw) (args : List WData) : l.row.toRowW.claim.post args (.bool true) args = true :=
  postW_of (r := l.row.toRowW) (X := (true == true))
    (show WShape.has [] (.bool true) .bool = true by first | rfl | decide | simp [WShape.has, WShape.arms, WShape.armsAll])
    (show (WTm.eq .res (.lit (.bool true))).value [] { args := args, res := some (.bool true), after := args } = some (.bool (true == true)) from w_eq_bool (w_res rfl) w_lit) rfl
section
variable {prog : Program} {w : World} {A : Around} {E : Value → Shared → Prop} {s : Shared} {K : Frag}
end
end Att
namespace L2
open PySem PySem.Spec PyProof.Rows
theorem vals_ints : ∀ {vs : List Value} {ns : List Int}, IntsAre vs ns → Vals (ns.map V.int) vs
  | _, _, .nil => .nil
  | _, _, .cons n t h => .cons ⟨t, rfl⟩ (vals_ints h)
def Only (H : Hp) : Prop := ∀ b, H b = none ∨ ∃ o xs, H b = some (.frz o (.lst xs))
theorem law_call {P : Program} {w : World} {K : PySem.W.Frag} {mg mb : Str → Option Value} {CX : CXT} {k : Nat} {fa a : Addr} {fd : FuncData} {x : Str} {sp : Sp} {s₁ : Shared} {vs : List Value} {ns : List Int}
    (KX : K.In s₁.heap) (hns : s₁.heap.Ns mainGlobals mg) (hb : s₁.heap.Ns builtinsNs mb) (hbb : ∀ x : Str, x ≠ "__name__" → mb x = bootBuiltins x) (hlim : s₁.heap.NoLimit) (hg : s₁.gens = #[]) (htk : TokB mg s₁.toks)
    (ha : s₁.heap.get? a = some { cls := .type "list", data := .seq vs.toArray }) (hi : IntsAre vs ns) (hl : ns.length ≤ sizeLine) (hr : Room k callerA)
    (F : ∀ base : Heap, K.In base → base.Ns mainGlobals mg → FnOk P w K mg base CX k fa fd [x] sp) (hbind : ∀ (s : Shared) (u : Value), BindsTo s fd ⟨[u], []⟩ [(x, u)])
    (hsp : ∀ H : Hp, Only H → SqL K H a (ns.map V.int) → sp [.ref a] H (fun v _ => v = .bl true) fun _ _ _ => False)
    (hCX : ∀ H e s', CX [] H s₁ (fun _ _ _ => False) e s' → False) :
    codeAny (model P w) callerA (.call (.ref fa) ⟨[.ref a], []⟩) (fun r s' => r = .ok (.ret (.bool true)) ∧ OldK s₁.heap s'.heap ∧ s'.os = s₁.os ∧ AllBare s'.gens) s₁ := by
  have rv := vals_ints hi
  have lenV := hi.length
  -- from an abstract heap in which nothing but the script may be tracked
  have core : ∀ H : Hp, Only H → SqL K H a (ns.map V.int) → HOk P w H s₁.heap → (∀ b, H b ≠ none → b = a) → (H a ≠ none → K.lookup a = none) →
      codeAny (model P w) callerA (.call (.ref fa) ⟨[.ref a], []⟩) (fun r s' => r = .ok (.ret (.bool true)) ∧ OldK s₁.heap s'.heap ∧ s'.os = s₁.os ∧ AllBare s'.gens) s₁ := by
    intro H hO hS hok hA hK
    have base_of : ∀ {b : Addr} {o : Obj}, s₁.heap.get? b = some o → H b = none → (hidT s₁.heap H).get? b = some o := fun e n => hidT_get e n
    have noA : ∀ {b : Addr} {o : Obj} {es : Array DictEntry} {ep : Nat}, s₁.heap.get? b = some o → o.data = .dict es ep → H b = none := fun {b o es ep} e d => by
      cases q : H b with
      | none => rfl
      | some u =>
        have e' : b = a := hA b (by rw [q]; simp)
        subst e'
        rw [ha] at e; cases e
        have d' : Data.seq vs.toArray _ = Data.dict es ep := d
        cases d'
    have nsK : ∀ {b : Addr} {m : Str → Option Value}, s₁.heap.Ns b m → (hidT s₁.heap H).Ns b m := fun {b m} ⟨o, es, ep, e, d, r⟩ => ⟨o, es, ep, base_of e (noA e d), d, r⟩
    have hKb : K.In (hidT s₁.heap H) := fun b o e => base_of (KX b o e) (by
      cases q : H b with
      | none => rfl
      | some u =>
        have e' : b = a := hA b (by rw [q]; simp)
        subst e'
        rw [hK (by rw [q]; simp)] at e; cases e)
    have hM : Mod K mg (hidT s₁.heap H) := ⟨hKb, nsK hns, ⟨mb, nsK hb, hbb⟩, let ⟨mc, h1, h2⟩ := hlim; ⟨mc, nsK h1, h2⟩⟩
    have e0 : Env0 P w K mg (hidT s₁.heap H) callerA [] s₁ H := ⟨rfl, hM, fun b o e => of_hidT e, Nat.le_of_eq (hidT_size _ _), trivial, fun b hb => absurd (show b ∈ ([] : List Addr) from hb) (by simp), hok, .of_eq hg, htk⟩
    refine codeAny_mono ((F _ hKb (nsK hns)).run callerA [] s₁ H ⟨[.ref a], []⟩ [.ref a] [.ref a] _ _ hr e0 (hbind s₁ (.ref a)) (.cons rfl .nil) (hsp H hO hS)) fun r s' h => ?_
    cases r with
    | error e => exact (hCX H e s' h).elim
    | ok fl =>
      cases fl with
      | next => exact False.elim h
      | brk => exact False.elim h
      | cont => exact False.elim h
      | ret u =>
        obtain ⟨v, H', os, bare, un, hok', r', _, q⟩ := h
        have q' : v = .bl true := q
        subst q'
        obtain rfl : u = Value.bool true := r'
        refine ⟨rfl, OldK.of_keep fun b o e => ?_, os, bare⟩
        cases q : H b with
        | none => exact un.keep b o e q (by intro z; exact absurd (show b ∈ ([] : List Addr) from z) (by simp)) (by simp)
        | some u =>
          rcases hO b with z | ⟨ob, xs, z⟩
          · rw [q] at z; cases z
          · have z2 := un.frzs b ob _ z
            obtain ⟨e1, _⟩ := hok b _ z
            obtain ⟨e2, _⟩ := hok' b _ z2
            rw [e] at e1; cases e1
            exact e2
  cases hk : K.lookup a with
  | some o =>
    -- the script is one of the module's own objects
    have e := KX a o hk
    rw [ha] at e
    cases e
    refine core (fun _ => none) (fun _ => .inl rfl) (.inr ⟨_, vs.toArray, _, hk, rfl, rfl, rfl, by rw [List.size_toArray, lenV]; exact hl, by simpa using rv⟩) (fun b u z => by have z' : (none : Option HO) = some u := z; cases z') (fun b z => absurd rfl z) fun z => absurd rfl z
  | none =>
    refine core (fun b => if b = a then some (.frz { cls := .type "list", data := .seq vs.toArray } (.lst (ns.map V.int))) else none) (fun b => ?_) (.inl (.inr ⟨{ cls := .type "list", data := .seq vs.toArray }, if_pos rfl⟩)) (fun b u z => ?_) (fun b z => ?_) fun _ => hk
    · by_cases hb : b = a
      · exact .inr ⟨_, _, if_pos hb⟩
      · exact .inl (if_neg hb)
    · by_cases hb : b = a
      · have z' := (if_pos hb).symm.trans z
        cases z'
        subst hb
        exact ⟨ha, by rw [List.length_map]; exact hl, vs, _, rv, ha⟩
      · have z' := (if_neg hb).symm.trans z
        cases z'
    · by_cases hb : b = a
      · exact hb
      · exact absurd (if_neg hb) z
end L2
namespace L2
open PySem PySem.Spec PyProof.Rows
end L2
namespace L2
open PySem PySem.Spec PyProof.Rows
/-! ### the text by places -/
def inClass (s : Stmt) (j : Nat) : Stmt := match s with
  | .ClassDef _ _ _ body _ _ _ _ _ _ _ => body.getD j (.Pass ⟨0, 0, 0, 0⟩)
  | _ => .Pass ⟨0, 0, 0, 0⟩
def defArgs (s : Stmt) : Arguments := match s with
  | .FunctionDef _ a _ _ _ _ _ _ _ _ => a
  | _ => { posonlyargs := [], args := [], vararg := none, kwonlyargs := [], kw_defaults := [], kwarg := none, defaults := [] }
def defBody (s : Stmt) : List Stmt := match s with
  | .FunctionDef _ _ b _ _ _ _ _ _ _ => b
  | _ => []
def defScope (s : Stmt) : Scope := match s with
  | .FunctionDef _ _ _ _ _ _ sc _ _ _ => sc
  | _ => { kind := .function, names := [], isGenerator := false, isCoroutine := false }
/-! ### no exception leaves a def -/
abbrev CX0 : CXT := fun _ _ _ _ _ _ => False
abbrev E0 : XK := fun _ _ _ => False
theorem pass0 {X : Cx} : Passes CX0 X E0 := fun _ _ _ _ _ _ _ h => h.elim
/-! ### a def (or method) of the text as it stands behind the top -/
structure Fun (K : PySem.W.Frag) (x qual : Str) (st : Stmt) (f : Addr) (fd : FuncData) : Prop where
  ex : ∃ (oc : Value) (od : Option Addr) (kV doc pm : Value) (an : Option Addr) (cdv ct : Value) (osl : Array (Option Value)),
    fd = PySem.W.fnOf x qual (defArgs st) (defBody st) (defScope st) .none kV doc pm an cdv ct ∧ K.lookup f = some ⟨oc, od, .func fd, osl⟩ ∧ PySem.W.codeIn K cdv qual = true
  kp : PySem.W.keepIn K (.ref f) = true
section
variable {P : Program} {w : World} {K : PySem.W.Frag} {mg : Str → Option Value} {base : Heap}
theorem Fun.ok {x qual : Str} {st : Stmt} {f : Addr} {fd : FuncData} {N ps : List Str} {k : Nat} {sp : Sp} (F : Fun K x qual st f fd) (S : FnScope N ps (defScope st)) (len : ∀ vs H Q E, sp vs H Q E → vs.length = ps.length)
    (hbody : ∀ (cdv : Value) (A : Around) (outer : List Env) (s : Shared) (H : Hp) (vs : List V) (Q : VK) (E : XK), Room k (A.deeper (envOfC qual (defScope st) s.heap.objs.size f cdv)) → sp vs H Q E →
      ∃ t, PSs (cxOf CX0 P w K mg base N qual (defScope st) f cdv A outer s H E).nox (defBody st) t ∧ t { nx := fun _ H' => Q .non H', rt := Q } (start N vs) H) : FnOk P w K mg base CX0 (k + 1) f fd ps sp := by
  obtain ⟨oc, od, kV, doc, pm, an, cdv, ct, osl, rfl, lk, hcd⟩ := F.ex
  refine fn_of lk hcd S len fun A outer s H vs Q E hr hsp => ?_
  obtain ⟨t, h, q⟩ := hbody cdv A outer s H vs Q E hr hsp
  exact ⟨t, h.nox, q⟩
theorem Fun.binds {x qual : Str} {st : Stmt} {f : Addr} {fd : FuncData} {ps : List Str} (F : Fun K x qual st f fd)
    (h : ∀ (kV doc pm : Value) (an : Option Addr) (cdv ct : Value) (us : List Value), us.length = ps.length → bindArgs (PySem.W.fnOf x qual (defArgs st) (defBody st) (defScope st) .none kV doc pm an cdv ct) ⟨us, []⟩ = pure (ps.zip us)) : Binds K fd ps [] := by
  obtain ⟨oc, od, kV, doc, pm, an, cdv, ct, osl, rfl, lk, hcd⟩ := F.ex
  exact .all (h kV doc pm an cdv ct)
theorem fun_mk {x qual : Str} {st : Stmt} {f : Addr} {oc : Value} {od an : Option Addr} {osl : Array (Option Value)} {kV doc pm cdv ct : Value} (l : K.lookup f = some ⟨oc, od, .func (PySem.W.fnOf x qual (defArgs st) (defBody st) (defScope st) .none kV doc pm an cdv ct), osl⟩)
    (c : PySem.W.codeIn K cdv qual = true) (k : PySem.W.keepIn K (.ref f) = true) : Fun K x qual st f (PySem.W.fnOf x qual (defArgs st) (defBody st) (defScope st) .none kV doc pm an cdv ct) := ⟨⟨oc, od, kV, doc, pm, an, cdv, ct, osl, rfl, l, c⟩, k⟩
end
theorem hu_of {A : Around} {k : Nat} (hr : Room k A) : A.units + 1 < cLine := Nat.lt_of_le_of_lt (Nat.add_le_add_left (by decide : 1 ≤ 64) _) hr.units
section
variable {X : Cx}
theorem pv (i : Nat) {x : Str} {pos : Pos} (hN : X.N[i]? = some x := by rfl) (hv : Vis X.env.scope x := by first | exact Or.inl rfl | exact Or.inr (Or.inl rfl) | exact Or.inr (Or.inr rfl)) (hd : (x == ("__debug__" : Str)) = false := by decide)
    (hcd : (x == ("__classdict__" : Str)) = false := by decide) : PE X (.Name x pos) (tVar i) := pe_var hN hv hd hcd
end
/-! ### tests -/
theorem iteF {A B : Prop} (h : B) : if false = true then A else B := by
  rw [if_neg Bool.false_ne_true]
  exact h
theorem iteT {A B : Prop} (h : A) : if true = true then A else B := by
  rw [if_pos rfl]
  exact h
/-! ### heaps -/
def Same (H H' : Hp) : Prop := ∀ b o, H b = some o → H' b = some o
theorem Same.refl (H : Hp) : Same H H := fun _ _ h => h
theorem Same.trans {H H1 H2 : Hp} (a : Same H H1) (b : Same H1 H2) : Same H H2 := fun c o h => b c o (a c o h)
theorem Same.free {H H' : Hp} (e : Same H H') {l : Addr} (h : H' l = Option.none) : H l = Option.none := by
  cases q : H l with
  | none => rfl
  | some o =>
    rw [e l o q] at h
    cases h
theorem Same.seq {K : PySem.W.Frag} {H H' : Hp} {a : Addr} {xs : List V} (e : Same H H') (h : SqL K H a xs) : SqL K H' a xs := by
  rcases h with (h | ⟨o, h⟩) | h
  · exact .inl (.inl (e _ _ h))
  · exact .inl (.inr ⟨o, e _ _ h⟩)
  · exact .inr h
section
variable {κ : Type} [DecidableEq κ]
end
end L2

namespace GP
theorem len1 {α : Type} : ∀ {l : List α}, l.length = 1 → ∃ a, l = [a]
  | [a], _ => ⟨a, rfl⟩
theorem len_s {α : Type} {n : Nat} : ∀ {l : List α}, l.length = n + 1 → ∃ a r, l = a :: r ∧ r.length = n
  | a :: r, h => ⟨a, r, rfl, Nat.succ.inj h⟩
theorem len2 {α : Type} {l : List α} (h : l.length = 2) : ∃ a b, l = [a, b] := by
  obtain ⟨a, r, rfl, k⟩ := len_s h
  obtain ⟨b, rfl⟩ := len1 k
  exact ⟨a, b, rfl⟩
theorem len3 {α : Type} {l : List α} (h : l.length = 3) : ∃ a b c, l = [a, b, c] := by
  obtain ⟨a, r, rfl, k⟩ := len_s h
  obtain ⟨b, c, rfl⟩ := len2 k
  exact ⟨a, b, c, rfl⟩
theorem len4 {α : Type} {l : List α} (h : l.length = 4) : ∃ a b c d, l = [a, b, c, d] := by
  obtain ⟨a, r, rfl, k⟩ := len_s h
  obtain ⟨b, c, d, rfl⟩ := len3 k
  exact ⟨a, b, c, d, rfl⟩
theorem len5 {α : Type} {l : List α} (h : l.length = 5) : ∃ a b c d e, l = [a, b, c, d, e] := by
  obtain ⟨a, r, rfl, k⟩ := len_s h
  obtain ⟨b, c, d, e, rfl⟩ := len4 k
  exact ⟨a, b, c, d, e, rfl⟩
theorem len6 {α : Type} {l : List α} (h : l.length = 6) : ∃ a b c d e f, l = [a, b, c, d, e, f] := by
  obtain ⟨a, r, rfl, k⟩ := len_s h
  obtain ⟨b, c, d, e, f, rfl⟩ := len5 k
  exact ⟨a, b, c, d, e, f, rfl⟩
end GP


namespace L2
open PySem PySem.Spec PyProof.Rows
section
variable {X : Cx}
/-! ### isinstance, all -/
theorem call_isinst : CallR X (.builtin "isinstance") (fun xs H Q => ∃ x n t b, xs = [x, .ty n] ∧ TyOf X.K H x t ∧ PySem.W.kitOne X.K t (.type n) = some b ∧ Q (.bl b) H) := by
  intro pins s σ H xs us Q I r h
  obtain ⟨x, n, t, b, rfl, ty, e, q⟩ := h
  obtain ⟨u, w', rfl, rx, rn⟩ := vals2 r
  cases rn
  exact TK.wpAny_up (Nat.le_refl _) (isinst_ok I rx ty e fun tk hup => ⟨.bl b, H, I.tok _, rfl, q⟩)
theorem bools_get : ∀ {bs : List Bool} {us : List Value}, Vals (bs.map V.bl) us → ∀ (i : Nat) (v : Value), us[i]? = some v → ∃ b, bs[i]? = some b ∧ v = .bool b
  | [], _, r, i, v, e => by
    cases r
    simp at e
  | b :: bs, _, r, i, v, e => by
    cases r with
    | cons r1 r2 =>
      cases i with
      | zero =>
        simp at e
        subst e
        exact ⟨b, rfl, r1⟩
      | succ i =>
        obtain ⟨c, h1, h2⟩ := bools_get r2 i v (by simpa using e)
        exact ⟨c, by simpa using h1, h2⟩
theorem range_allB (bs : List Bool) : ((List.range bs.length).all fun i => (bs[i]?).getD true) = bs.all id := by
  rw [Bool.eq_iff_iff, List.all_eq_true, List.all_eq_true]
  constructor
  · intro h b hb
    obtain ⟨i, hi, rfl⟩ := List.getElem_of_mem hb
    have := h i (List.mem_range.mpr hi)
    simpa only [List.getElem?_eq_getElem hi, Option.getD_some, id] using this
  · intro h i hi
    have hi' := List.mem_range.mp hi
    simpa only [List.getElem?_eq_getElem hi', Option.getD_some, id] using h _ (List.getElem_mem hi')
theorem call_all_bl (hc : X.calm = true) : CallR X (.builtin "all") (fun xs H Q => ∃ (l : Addr) (bs : List Bool), xs = [.ref l] ∧ SqL X.K H l (bs.map V.bl) ∧ Q (.bl (bs.all id)) H) := by
  intro pins s σ H xs us Q I r h
  obtain ⟨l, bs, rfl, hl, q⟩ := h
  obtain ⟨u, rfl, ru⟩ := vals1 r
  cases ru
  obtain ⟨its, rv, p, hz⟩ := I.list hl
  have pl : s.heap.IsList l its.toArray := p.isList
  have hlt : l < s.heap.objs.size := by obtain ⟨_, e, _⟩ := pl; exact Heap.lt_size e
  have hlen : bs.length = its.length := by rw [← rv.length, List.length_map]
  refine TK.wpAny_up (Nat.le_refl s.toks) ?_
  refine call_all_walk (wpAny_pyIter_list pl ?_)
  refine ⟨s.heap.objs.size, [s.heap.objs.size, l], [s.heap.objs.size], its.toArray.size, _, _, fun i => (bs[i]?).getD true, rfl, Walks.list (A := X.A.in1) (I.ok.hd hc) _ l (Nat.ne_of_lt hlt) its.toArray,
    ⟨⟨_, Heap.get?_push_size _ rfl, rfl, rfl⟩, pl.push _⟩, fun i v s' Q' E' hP hQ => ?_, fun h' tk hk hup => ?_⟩
  · obtain ⟨b, e, rfl⟩ := bools_get rv i v (by simpa using hP)
    simp only [e, Option.getD_some] at hQ
    exact wpAny_truthy_bool hQ
  · have e : ((List.range its.toArray.size).all fun i => (bs[i]?).getD true) = bs.all id := by
      rw [List.size_toArray, ← hlen]; exact range_allB bs
    rw [e]
    refine ⟨.bl (bs.all id), H, I.kept (t' := tk) (fun b x e => hk b x (fun hm => ?_) (Heap.get?_push_of_some _ e)), rfl, q⟩
    rw [List.mem_singleton.mp hm] at e
    exact Nat.lt_irrefl _ (Heap.lt_size e)
end
/-! ### a word between two statements -/
def tMid (t u : TS) : TS := fun D σ H => ∃ Mid : St → Hp → Prop, t { D with nx := Mid } σ H ∧ ∀ σ' H', Mid σ' H' → u D σ' H'
theorem pss_mid {X : Cx} {st : Stmt} {rest : List Stmt} {t u : TS} (h1 : PS X st t) (h2 : PSs X rest u) : PSs X (st :: rest) (tMid t u) := by
  intro pins s σ H D I h
  obtain ⟨Mid, h, hm⟩ := h
  refine wpAny_execs_cons (thn (h1 pins s σ H { D with nx := Mid } I h) fun f s1 q => ?_)
  cases f with
  | next =>
    obtain ⟨σ', H', I', q⟩ := q
    exact h2 pins s1 σ' H' D I' (hm σ' H' q)
  | ret v => exact q
  | brk => exact q
  | cont => exact q
/-! ### a list comprehension of one clause without tests -/
def cxComp (X : Cx) (scope : Scope) (cl : List (Str × Addr)) (C : Addr) (N : List Str) (s : Shared) (H : Hp) (ex : List Addr) (pn : List (Addr × Obj)) (E : Value → Shared → Prop) : Cx :=
  { X with N := N, s₀ := s, H₀ := H, env := compEnvC scope cl C X.env, outer := X.stack, ex := ex, fn := fun x => scope.names.lookup x == some .cell, pn := pn, xe := E }
structure CompSc (X : Cx) (scope : Scope) (cl : List (Str × Addr)) (N : List Str) (σ0 : St → St) : Prop where
  clos : closureFor scope X.env = pure cl
  kind : scope.kind = .function
  cell : ∀ y ∈ scope.names, y.2 = .cell → cl.lookup y.1 = none
  names : ∀ y ∈ scope.names, y.2 = .local → scope.names.lookup y.1 = some .local
  sub : ∀ x c, cl.lookup x = some c → X.env.cells.lookup x = some c
  has : ∀ x, ((relabel scope X.env).names.lookup x = some .cell ∨ (relabel scope X.env).names.lookup x = some .free) → scope.names.lookup x = some .cell ∨ ∃ c, cl.lookup x = some c
  len : ∀ σ, (σ0 σ).length = N.length
  fv : ∀ (σ : St) (i : Nat) (x : Str) (v : V), N[i]? = some x → (σ0 σ)[i]? = some (some v) → Vis (relabel scope X.env) x →
    ∃ (j : Nat) (c : Addr), X.N[j]? = some x ∧ σ[j]? = some (some v) ∧ X.env.kindOf x = some .cell ∧ ((relabel scope X.env).names.lookup x = some .cell ∨ (relabel scope X.env).names.lookup x = some .free) ∧ cl.lookup x = some c
structure CompCl (cl cl' : List (Str × Addr)) (scope : Scope) (n : Nat) (h₁ : Heap) : Prop where
  look : ∀ x c, cl'.lookup x = some c → (n < c ∧ h₁.IsCell c none) ∨ cl.lookup x = some c
  inj : ∀ x y c, n < c → cl'.lookup x = some c → cl'.lookup y = some c → (∀ x, cl.lookup x ≠ some c) → x = y
  keep : ∀ x c, cl.lookup x = some c → cl'.lookup x = some c
  own : ∀ x, scope.names.lookup x = some .cell → ∃ c, cl'.lookup x = some c
theorem cellsFrom_app : ∀ (names : List (Str × NameKind)) (n : Nat) (acc : List (Str × Addr)), cellsFrom n names acc = cellsFrom n names [] ++ acc
  | [], _, _ => rfl
  | (y, k) :: r, n, acc => by
    unfold cellsFrom
    split
    · rw [cellsFrom_app r _ ((y, n) :: acc), cellsFrom_app r _ [(y, n)], List.append_assoc]; rfl
    · exact cellsFrom_app r n acc
theorem cellsFrom_mem : ∀ (names : List (Str × NameKind)) (n : Nat) (acc : List (Str × Addr)) (x : Str) (c : Addr), (x, c) ∈ cellsFrom n names acc → (x, NameKind.cell) ∈ names ∨ (x, c) ∈ acc
  | [], _, _, _, _, h => .inr h
  | (y, k) :: r, n, acc, x, c, h => by
    unfold cellsFrom at h
    split at h
    next hk =>
      rcases cellsFrom_mem r _ _ x c h with z | z
      · exact .inl (List.mem_cons_of_mem _ z)
      · rcases List.mem_cons.mp z with e | e
        · cases e
          have hk' : k = .cell := by simpa using hk
          rw [hk']
          exact .inl List.mem_cons_self
        · exact .inr e
    next => exact (cellsFrom_mem r _ _ x c h).imp (List.mem_cons_of_mem _) id
theorem comp_env {X : Cx} {scope : Scope} {cl : List (Str × Addr)} {N : List Str} {σ0 : St → St} (S : CompSc X scope cl N σ0) {M : Model} {A : Around} {E : Value → Shared → Prop} {s : Shared} {Q : Env → Shared → Prop}
    (h : ∀ cl' h₁, CompCl cl cl' scope s.heap.objs.size h₁ → h₁.Ns s.heap.objs.size (fun _ => none) → (∀ b o, s.heap.get? b = some o → h₁.get? b = some o) → Q { compEnvC scope cl' s.heap.objs.size X.env with scope := scope } { s with heap := h₁ }) :
    wpAny M A (newFunctionEnv scope X.env.globals cl [] X.env.qual none .none (some X.env)) Q E s := by
  simp only [newFunctionEnv, Option.isSome_some, if_true]
  refine wpAny_bind (wpAny_alloc ?_)
  refine wpAny_bind (wpAny_layCells _ (fun name kind cells => by cases hkc : kind == NameKind.cell <;> simp [hkc]) _ _ _ _ ?_)
  have hz : (s.heap.push { cls := .type "dict", data := .dict #[] }).objs.size = s.heap.objs.size + 1 := Heap.size_push ..
  have ok := cellsFrom_ok scope.names (s.heap.push { cls := .type "dict", data := .dict #[] }) (s.heap.objs.size + 1) [] ⟨fun _ _ hm => (nomatch hm), List.Pairwise.nil⟩ (by rw [hz]; exact Nat.le_refl _)
  simp only [List.forIn_nil]
  refine wpAny_bind (wpAny_pure (wpAny_pure (h (cellsFrom (s.heap.push { cls := .type "dict", data := .dict #[] }).objs.size scope.names cl) _ ⟨fun x c e => ?_, fun x y c _ ex ey hn => ?_, fun x c e => ?_, fun x e => ?_⟩ ((Heap.Ns.new s.heap (.type "dict")).keeps fun b o e => pushCells_keeps _ _ _ _ e) fun b o e => pushCells_keeps _ _ _ _ (Heap.get?_push_of_some _ e))))
  · rw [cellsFrom_app, List.lookup_append] at e
    cases q : (cellsFrom (s.heap.push { cls := .type "dict", data := .dict #[] }).objs.size scope.names []).lookup x with
    | none => rw [q] at e; exact .inr e
    | some d =>
      rw [q] at e
      cases e
      exact .inl ((ok.empty x c (mem_of_lookup q)).symm)
  · rw [cellsFrom_app, List.lookup_append] at ex ey
    cases qx : (cellsFrom (s.heap.push { cls := .type "dict", data := .dict #[] }).objs.size scope.names []).lookup x with
    | none => rw [qx] at ex; exact absurd ex (hn x)
    | some d =>
      rw [qx] at ex
      cases ex
      cases qy : (cellsFrom (s.heap.push { cls := .type "dict", data := .dict #[] }).objs.size scope.names []).lookup y with
      | none => rw [qy] at ey; exact absurd ey (hn y)
      | some d =>
        rw [qy] at ey
        cases ey
        exact name_of_addr ok.apart (mem_of_lookup qx) (mem_of_lookup qy)
  · rw [cellsFrom_app, List.lookup_append]
    cases q : (cellsFrom (s.heap.push { cls := .type "dict", data := .dict #[] }).objs.size scope.names []).lookup x with
    | none => exact e
    | some d =>
      rcases cellsFrom_mem _ _ _ _ _ (mem_of_lookup q) with z | z
      · rw [S.cell _ z rfl] at e; cases e
      · cases z
  · exact Option.isSome_iff_exists.mp (PySem.W.cellsFrom_some _ _ _ (.inl e))
theorem CompSc.plain {X : Cx} {scope : Scope} {N : List Str} (hfree : ∀ x ∈ scope.names, x.2 ≠ .free) (kind : scope.kind = .function) (_ : ∀ y ∈ scope.names, y.2 = .cell → (y.1, NameKind.free) ∉ scope.names)
    (names : ∀ y ∈ scope.names, y.2 = .local → scope.names.lookup y.1 = some .local) : CompSc X scope [] N (fun _ => List.replicate N.length none) := by
  have hr : (relabel scope X.env).names = scope.names := by
    unfold relabel
    exact map_eq_self fun x hx => by
      obtain ⟨n, k⟩ := x
      have : (k == NameKind.free) = false := by simpa using hfree _ hx
      simp [this]
  refine ⟨closureFor_none hfree, kind, fun _ _ _ => rfl, names, fun x c e => by simp at e, fun x hx => ?_, fun σ => List.length_replicate, fun σ i x v _ e _ => ?_⟩
  · rw [hr] at hx
    rcases hx with hx | hx
    · exact .inl hx
    · exact absurd rfl (hfree _ (PySem.mem_of_lookup hx))
  · rw [List.getElem?_replicate] at e
    split at e
    · cases e
    · cases e
def clOf (look : Str → Option Addr) : List (Str × NameKind) → List (Str × Addr) → List (Str × Addr)
  | [], acc => acc
  | (n, k) :: r, acc => if (k == NameKind.free) = true then (match look n with | some a => clOf look r ((n, a) :: acc) | none => clOf look r acc) else clOf look r acc
theorem closure_is {env : Env} : ∀ (names : List (Str × NameKind)) (acc : List (Str × Addr)), (∀ x ∈ names, x.2 = .free → ∃ a, env.cells.lookup x.1 = some a) →
    (forIn names acc (fun (x : Str × NameKind) (r : List (Str × Addr)) => match x with | (name, kind) => if (kind == NameKind.free) = true then do let c ← cellOf env name; pure (ForInStep.yield ((name, c) :: r)) else pure (ForInStep.yield r)) : Sem (List (Str × Addr))) = pure (clOf (env.cells.lookup ·) names acc)
  | [], acc, _ => rfl
  | (n, k) :: r, acc, h => by
    rw [List.forIn_cons]
    dsimp only
    unfold clOf
    by_cases hk : (k == NameKind.free) = true
    · obtain ⟨a, ha⟩ := h (n, k) List.mem_cons_self (by simpa using hk)
      have ha' : env.cells.lookup n = some a := ha
      rw [if_pos hk, if_pos hk, ha']
      have hc : cellOf env n = pure a := by unfold cellOf; rw [ha']
      rw [hc]
      exact closure_is r _ fun x hx => h x (List.mem_cons_of_mem _ hx)
    · rw [if_neg hk, if_neg hk]
      exact closure_is r _ fun x hx => h x (List.mem_cons_of_mem _ hx)
theorem clOf_sub {look : Str → Option Addr} : ∀ (names : List (Str × NameKind)) (acc : List (Str × Addr)), (∀ x c, acc.lookup x = some c → look x = some c) → ∀ x c, (clOf look names acc).lookup x = some c → look x = some c
  | [], acc, h => h
  | (n, k) :: r, acc, h => by
    unfold clOf
    by_cases hk : (k == NameKind.free) = true
    · rw [if_pos hk]
      cases e : look n with
      | none => exact clOf_sub r acc h
      | some a =>
        refine clOf_sub r _ fun x c q => ?_
        rw [List.lookup_cons] at q
        by_cases hx : (x == n) = true
        · rw [hx] at q
          have : x = n := by simpa using hx
          rw [this, e]
          exact q
        · have hx' : (x == n) = false := by simpa using hx
          rw [hx'] at q
          exact h x c q
    · rw [if_neg hk]
      exact clOf_sub r acc h
theorem clOf_keeps {look : Str → Option Addr} : ∀ (names : List (Str × NameKind)) (acc : List (Str × Addr)) (x : Str), (∃ c, acc.lookup x = some c) → ∃ c, (clOf look names acc).lookup x = some c
  | [], _, _, h => h
  | (n, k) :: r, acc, x, h => by
    unfold clOf
    by_cases hk : (k == NameKind.free) = true
    · rw [if_pos hk]
      cases e : look n with
      | none => exact clOf_keeps r acc x h
      | some a =>
        refine clOf_keeps r _ x ?_
        rw [List.lookup_cons]
        cases hx : x == n with
        | true => exact ⟨a, rfl⟩
        | false => exact h
    · rw [if_neg hk]
      exact clOf_keeps r acc x h
theorem clOf_has {look : Str → Option Addr} : ∀ (names : List (Str × NameKind)) (acc : List (Str × Addr)) (x : Str), (x, NameKind.free) ∈ names → (∃ a, look x = some a) → ∃ c, (clOf look names acc).lookup x = some c
  | [], _, _, h, _ => by cases h
  | (n, k) :: r, acc, x, h, ha => by
    unfold clOf
    rcases List.mem_cons.mp h with e | e
    · obtain ⟨a, ha⟩ := ha
      have e1 : x = n := congrArg Prod.fst e
      have e2 : k = NameKind.free := (congrArg Prod.snd e).symm
      subst e1 e2
      rw [if_pos (by decide), ha]
      refine clOf_keeps r _ x ⟨a, ?_⟩
      rw [List.lookup_cons]
      simp
    · by_cases hk : (k == NameKind.free) = true
      · rw [if_pos hk]
        cases e2 : look n with
        | none => exact clOf_has r acc x e ha
        | some a => exact clOf_has r _ x e ha
      · rw [if_neg hk]
        exact clOf_has r acc x e ha
theorem clOf_mem {look : Str → Option Addr} : ∀ (names : List (Str × NameKind)) (acc : List (Str × Addr)) (x : Str) (c : Addr), (clOf look names acc).lookup x = some c → (x, NameKind.free) ∈ names ∨ acc.lookup x = some c
  | [], _, _, _, h => .inr h
  | (n, k) :: r, acc, x, c, h => by
    unfold clOf at h
    by_cases hk : (k == NameKind.free) = true
    · rw [if_pos hk] at h
      cases e : look n with
      | none => rw [e] at h; exact (clOf_mem r acc x c h).imp (List.mem_cons_of_mem _) id
      | some a =>
        rw [e] at h
        rcases clOf_mem r _ x c h with z | z
        · exact .inl (List.mem_cons_of_mem _ z)
        · rw [List.lookup_cons] at z
          cases hx : x == n with
          | true =>
            have e1 : x = n := by simpa using hx
            have e2 : k = .free := by simpa using hk
            rw [e1, e2]
            exact .inl List.mem_cons_self
          | false => rw [hx] at z; exact .inr z
    · rw [if_neg hk] at h
      exact (clOf_mem r acc x c h).imp (List.mem_cons_of_mem _) id
theorem relabel_of {env : Env} : ∀ {names : List (Str × NameKind)} {x : Str} {k : NameKind},
    (names.map fun (n, k) => if (k == NameKind.free && env.scope.kind == .function && env.kindOf n == some .cell) then (n, NameKind.cell) else (n, k)).lookup x = some k →
    (k = .cell ∨ k = .free) → names.lookup x = some .cell ∨ (x, NameKind.free) ∈ names
  | [], _, _, h, _ => by simp at h
  | (n, j) :: r, x, k, h, hk => by
    rw [List.map_cons, List.lookup_cons] at h
    rw [List.lookup_cons]
    by_cases hj : (j == NameKind.free && env.scope.kind == .function && env.kindOf n == some .cell) = true
    · simp only [hj, if_true] at h
      by_cases hx : (x == n) = true
      · have e : x = n := by simpa using hx
        have ej : j = .free := by
          rw [Bool.and_eq_true, Bool.and_eq_true] at hj
          simpa using hj.1.1
        rw [e, ← ej]
        exact .inr List.mem_cons_self
      · have hx' : (x == n) = false := by simpa using hx
        rw [hx'] at h ⊢
        exact (relabel_of h hk).imp id (List.mem_cons_of_mem _)
    · simp only [hj] at h
      by_cases hx : (x == n) = true
      · have e : x = n := by simpa using hx
        rw [e] at h
        simp at h
        subst h
        rw [hx]
        rcases hk with q | q
        · rw [q]; exact .inl rfl
        · rw [e, ← q]
          exact .inr List.mem_cons_self
      · have hx' : (x == n) = false := by simpa using hx
        simp [hx'] at h
        rw [hx']
        exact (relabel_of (by simpa using h) hk).imp id (List.mem_cons_of_mem _)
def st0 (nt : Nat) (ix : List Nat) (σ : St) : St := List.replicate nt none ++ ix.map fun j => (σ[j]?).join
theorem CompSc.free {X : Cx} {scope : Scope} {N : List Str} {nt : Nat} {ix : List Nat} (kind : scope.kind = .function) (cell : ∀ y ∈ scope.names, y.2 = .cell → (y.1, NameKind.free) ∉ scope.names)
    (names : ∀ y ∈ scope.names, y.2 = .local → scope.names.lookup y.1 = some .local) (hf : ∀ y ∈ scope.names, y.2 = .free → X.env.kindOf y.1 = some .cell)
    (hl : N.length = nt + ix.length) (hx : ∀ (k j : Nat), ix[k]? = some j → ∃ x, N[nt + k]? = some x ∧ X.N[j]? = some x ∧ (x, NameKind.free) ∈ scope.names ∧ (relabel scope X.env).names.lookup x = some .cell) (ok : X.Ok) :
    ∃ cl, CompSc X scope cl N (st0 nt ix) := by
  have hcl : ∀ y ∈ scope.names, y.2 = .free → ∃ a, X.env.cells.lookup y.1 = some a := fun y hy hk => ok.has y.1 (.inl (hf y hy hk))
  refine ⟨clOf (X.env.cells.lookup ·) scope.names [], ?_, kind, fun y hy hk => ?_, names, clOf_sub scope.names [] (fun x c e => by simp at e), fun x h => ?_, fun σ => ?_, fun σ i x v e1 e2 e3 => ?_⟩
  · have z := closure_is scope.names [] hcl
    unfold closureFor
    dsimp only
    rw [z]
    rfl
  · cases q : (clOf (X.env.cells.lookup ·) scope.names []).lookup y.1 with
    | none => rfl
    | some c =>
      rcases clOf_mem _ _ _ _ q with z | z
      · exact absurd z (cell y hy hk)
      · cases z
  · have hm : scope.names.lookup x = some .cell ∨ (x, NameKind.free) ∈ scope.names := by
      rcases h with h | h
      · exact relabel_of h (.inl rfl)
      · exact relabel_of h (.inr rfl)
    exact hm.imp id fun hm => clOf_has scope.names [] x hm (hcl _ hm rfl)
  · unfold st0
    rw [List.length_append, List.length_replicate, List.length_map, hl]
  · unfold st0 at e2
    by_cases hi : i < nt
    · rw [List.getElem?_append_left (by rw [List.length_replicate]; exact hi), List.getElem?_replicate] at e2
      split at e2
      · cases e2
      · cases e2
    · rw [List.getElem?_append_right (by rw [List.length_replicate]; omega), List.length_replicate, List.getElem?_map] at e2
      cases ej : ix[i - nt]? with
      | none => rw [ej] at e2; cases e2
      | some j =>
        rw [ej] at e2
        have e2' : (σ[j]?).join = some v := Option.some.inj e2
        obtain ⟨x', n1, n2, n3, n4⟩ := hx (i - nt) j ej
        rw [show nt + (i - nt) = i by omega, e1] at n1
        cases n1
        obtain ⟨c, hc⟩ := clOf_has (look := (X.env.cells.lookup ·)) scope.names [] x n3 (hcl _ n3 rfl)
        refine ⟨j, c, n2, ?_, hf _ n3 rfl, .inl n4, hc⟩
        cases es : σ[j]? with
        | none => rw [es] at e2'; cases e2'
        | some o => rw [es] at e2'; rw [show o = some v from e2']
def Kp (a b : St) : Prop := ∀ (i : Nat) (v : V), a[i]? = some (some v) → b[i]? = some (some v)
theorem Kp.rep (n : Nat) (b : St) : Kp (List.replicate n none) b := fun i v e => by
  rw [List.getElem?_replicate] at e
  split at e
  · cases e
  · cases e
def tComp (wi : TI) (g : TG) (te : TE) (σ0 : St → St) : TE := fun σ H Q => wi σ H fun J H1 => ∀ l, H1 l = none → ∃ W : Nat → Nat → List V → Hp → Prop, (∃ m, W 0 m [] (upd H1 l (.lst []))) ∧
  ∀ i m ys H2, W i m ys H2 → (J.stop i H2 ∧ Q (.ref l) H2) ∨
    (J.go i H2 ∧ ∀ x H3, J.yld i H2 x H3 → g x (σ0 σ) H3 fun σ4 H4 => Kp (σ0 σ) σ4 ∧ te σ4 H4 fun y H5 => H5 l = some (.lst ys) ∧ ys.length < sizeLine ∧ ∃ m', m' < m ∧ W (i + 1) m' (ys ++ [y]) (upd H5 l (.lst (ys ++ [y]))))
theorem Inv.unpin {X : Cx} {pins : List (Addr × Obj)} {σ : St} {H : Hp} {s : Shared} (I : Inv X pins σ H s) : Inv X [] σ H s := I.pins_of fun _ hp => nomatch hp
theorem HOk.but {P : Program} {w : World} {H : Hp} {h h' : Heap} {C : Addr} (x : HOk P w H h) (hC : H C = none) (sb : Heap.SameBut C h h') : HOk P w H h' := fun b u e =>
  (x b u e).stay (fun c v hc q => (sb.2 c (by
    rintro rfl
    rcases hc with z | z
    · rw [z, e] at hC; cases hC
    · rw [hC] at z; cases z)).trans q) (fun _ q => q) fun _ _ q => q
section
variable {X : Cx} {pins : List (Addr × Obj)} {σ : St} {H : Hp} {s : Shared} {scope : Scope} {cl : List (Str × Addr)} {N : List Str} {σ0 : St → St} {fp : List Addr} {h₁ : Heap} {m : Str → Option Value} {E : Value → Shared → Prop}
theorem inv_comp {cl' : List (Str × Addr)} (S : CompSc X scope cl N σ0) (G : CompCl cl cl' scope s.heap.objs.size h₁) (I : Inv X pins σ H s) (hf : ∀ b ∈ fp, FpOk X pins H b ∧ b < s.heap.objs.size) (kp : ∀ b o, s.heap.get? b = some o → h₁.get? b = some o) (hns : h₁.Ns s.heap.objs.size m) (t' : Nat) (ht : s.toks ≤ t' := by first | exact Nat.le_refl _ | exact Nat.le_succ _ | assumption | omega) :
    Inv (cxComp X scope cl' s.heap.objs.size N s H fp (X.pn ++ pins) E) [] (σ0 σ) H { s with heap := h₁, toks := t' } := by
  have nstk : ∀ b, b ≠ X.env.locals → b ∉ X.fs → b ∉ frs X.stack := fun b h1 h2 z => by
    rcases List.mem_cons.mp (I.stkSub b z) with q | q
    · exact h1 q
    · exact h2 q
  have cab : ∀ x c, cl.lookup x = some c → c < s.heap.objs.size := fun x c e => by
    obtain ⟨v, o, ho, _⟩ := I.cell x c (S.sub x c e)
    exact Heap.lt_size ho
  refine ⟨⟨I.mod, S.kind, I.ok.glob, I.ok.blt, Nat.le_refl _, fun x y c a b => ?_, fun x h => (S.has x h).elim (G.own x) fun ⟨c, e⟩ => ⟨c, G.keep x c e⟩, fun x c z e => ?_, I.ok.hd, I.ok.frames, .inl rfl, fun b hb => ?_, I.bs, Nat.le_trans I.ok.bsz I.sz, fun b o e hb => ?_, fun b hb => ?_, I.stack, I.stkFree, I.tk⟩,
    rfl, I.bare, Un.kept kp, ⟨m, hns, fun i x v e1 e2 e3 => ?_⟩, fun x c e => ?_, I.hok.fresh (Nat.le_refl _), fun x c e => (G.look x c e).elim (fun z => I.hok.fresh (Nat.le_of_lt z.1)) fun z => I.freeC x c (S.sub x c z), fun p hp => ?_, I.hok.kept kp, S.len σ, ht⟩
  · by_cases hc : s.heap.objs.size < c
    · exact G.inj x y c hc a b fun z e => Nat.lt_asymm hc (cab z c e)
    · exact I.ok.inj x y c (S.sub x c ((G.look x c a).elim (fun z => absurd z.1 hc) id)) (S.sub y c ((G.look y c b).elim (fun z => absurd z.1 hc) id))
  · rcases G.look x c e with q | q
    · exact Nat.le_of_lt q.1
    · have z2 : (scope.names.lookup x == some NameKind.cell) = true := z
      have z' : scope.names.lookup x = some .cell := by simpa using z2
      rw [S.cell _ (mem_of_lookup z') rfl] at q
      cases q
  · obtain ⟨⟨_, _, _, _, f4, _⟩, lt⟩ := hf b hb
    exact ⟨Nat.ne_of_lt lt, fun x c e => (G.look x c e).elim (fun z => Nat.ne_of_gt (Nat.lt_trans lt z.1)) fun z => f4 x c (S.sub x c z)⟩
  · obtain ⟨⟨f0, _, _, f3, _⟩, _⟩ := hf b hb
    rcases f3 with z | z
    · exact I.ok.noex b o e z
    · exact absurd (Nat.lt_of_lt_of_le (Heap.lt_size e) (Nat.le_trans I.ok.bsz z)) (Nat.lt_irrefl _)
  · obtain ⟨⟨_, f1, f2, _⟩, _⟩ := hf b hb
    exact nstk b f1 f2
  · obtain ⟨j, c, n1, n2, n3, n4, n5⟩ := S.fv σ i x v e1 e2 e3
    obtain ⟨mX, _, hl⟩ := I.loc
    obtain ⟨u, r, l⟩ := hl j x v n1 n2 (.inr (.inl n3))
    refine ⟨u, r, .inr ⟨n4, c, G.keep x c n5, ?_⟩⟩
    rcases l with ⟨k, _⟩ | ⟨_, c', ec, o, ho, hd⟩
    · have k' : X.env.scope.names.lookup x = some .local := k
      have n3' : X.env.scope.names.lookup x = some .cell := n3
      rw [k'] at n3'; cases n3'
    · have q := S.sub x c n5
      rw [q] at ec; cases ec
      exact ⟨o, kp _ _ ho, hd⟩
  · rcases G.look x c e with z | z
    · exact ⟨none, z.2⟩
    · obtain ⟨v, o, ho, hd⟩ := I.cell x c (S.sub x c z)
      exact ⟨v, o, kp _ _ ho, hd⟩
  · have hp' : p ∈ X.pn ++ pins := by
      rcases List.mem_append.mp hp with z | z
      · exact z
      · cases z
    obtain ⟨a, b, c, d, e⟩ := I.pin p hp'
    exact ⟨kp _ _ a, b, Nat.ne_of_lt (Heap.lt_size a), nstk _ c d, e⟩
end
end L2

namespace L2
open PySem PySem.Spec PyProof.Rows
/-! ### what zip and enumerate may be made of: a list, a tuple, a text -/
inductive Cp where
  | lst (a : Addr) | tup (a : Addr) | txt (x : Str)
def signsV (x : Str) : List V := x.cps.toList.map fun c => V.str ⟨#[c]⟩
def Cp.val : Cp → V
  | .lst a => .ref a
  | .tup a => .ref a
  | .txt x => .str x
def Cp.at (K : PySem.W.Frag) (H : Hp) : Cp → List V → Prop
  | .lst a => SqL K H a
  | .tup a => SqT K H a
  | .txt x => fun xs => xs = signsV x
def Cp.itr (h : Heap) (it : Addr) (i : Nat) : Cp → Prop
  | .lst a => h.IsListIter it a i
  | .tup a => h.IsTupleIter it a i
  | .txt x => ∃ t, h.IsStrIter it (strIterType x) x t i
def Cp.src (h : Heap) : Cp → List V → Prop
  | .lst a => fun xs => ∃ its, Vals xs its ∧ h.IsList a its.toArray
  | .tup a => fun xs => ∃ its, Vals xs its ∧ h.IsTuple a its.toArray
  | .txt x => fun xs => xs = signsV x
def Cp.off (b : Addr) : Cp → Prop
  | .lst a => a ≠ b
  | .tup a => a ≠ b
  | .txt _ => True
section
variable {X : Cx} {pins : List (Addr × Obj)} {σ : St} {H : Hp} {s : Shared} {c d : Cp} {xs ys : List V}
theorem Cp.src_of (I : Inv X pins σ H s) (h : c.at X.K H xs) : c.src s.heap xs := by
  cases c with
  | lst a => obtain ⟨its, r, p, _⟩ := I.list h; exact ⟨its, r, p.isList⟩
  | tup a => obtain ⟨its, r, p, _⟩ := I.tuple h; exact ⟨its, r, p⟩
  | txt x => exact h
theorem Cp.at_inj (I : Inv X pins σ H s) (h : c.at X.K H xs) (h' : c.at X.K H ys) : xs = ys := by
  cases c with
  | lst a => exact I.list_inj h h'
  | tup a => exact I.tuple_inj h h'
  | txt x => exact (show xs = signsV x from h).trans (show ys = signsV x from h').symm
theorem Cp.off_of {h : Heap} {b : Addr} {o : Obj} {T : String} (hs : c.src h xs) (hb : h.get? b = some o) (hc : o.cls = .type T) (n1 : T ≠ "list") (n2 : T ≠ "tuple") : c.off b := by
  cases c with
  | lst a =>
    obtain ⟨its, _, o', ho, hc', _⟩ := hs
    intro e
    rw [e, hb] at ho
    cases ho
    rw [hc] at hc'
    injection hc' with q
    exact n1 q
  | tup a =>
    obtain ⟨its, _, o', ho, hc', _⟩ := hs
    intro e
    rw [e, hb] at ho
    cases ho
    rw [hc] at hc'
    injection hc' with q
    exact n2 q
  | txt x => trivial
theorem Cp.off_new {h : Heap} {b : Addr} (hs : c.src h xs) (hb : h.objs.size ≤ b) : c.off b := by
  cases c with
  | lst a =>
    obtain ⟨its, _, o', ho, _⟩ := hs
    exact Nat.ne_of_lt (Nat.lt_of_lt_of_le (Heap.lt_size ho) hb)
  | tup a =>
    obtain ⟨its, _, o', ho, _⟩ := hs
    exact Nat.ne_of_lt (Nat.lt_of_lt_of_le (Heap.lt_size ho) hb)
  | txt x => trivial
theorem Cp.src_ext {h h' : Heap} {b : Addr} (hs : c.src h xs) (hx : Heap.ExtBut b h h') (ho : c.off b) : c.src h' xs := by
  cases c with
  | lst a => obtain ⟨its, r, p⟩ := hs; exact ⟨its, r, p.extBut hx ho⟩
  | tup a => obtain ⟨its, r, p⟩ := hs; exact ⟨its, r, p.extBut hx ho⟩
  | txt x => exact hs
theorem Cp.src_keep {h h' : Heap} (hs : c.src h xs) (hx : ∀ b o, h.get? b = some o → h'.get? b = some o) : c.src h' xs := by
  cases c with
  | lst a => obtain ⟨its, r, o, ho, q⟩ := hs; exact ⟨its, r, o, hx _ _ ho, q⟩
  | tup a => obtain ⟨its, r, o, ho, q⟩ := hs; exact ⟨its, r, o, hx _ _ ho, q⟩
  | txt x => exact hs
theorem Cp.itr_obj {h : Heap} {it : Addr} {i : Nat} (q : c.itr h it i) : ∃ o T vs, h.get? it = some o ∧ o.cls = .type T ∧ o.data = .fields vs ∧ T ≠ "list" ∧ T ≠ "tuple" := by
  cases c with
  | lst a => obtain ⟨o, ho, hc, hd⟩ := q; exact ⟨o, _, _, ho, hc, hd, by decide, by decide⟩
  | tup a => obtain ⟨o, ho, hc, hd⟩ := q; exact ⟨o, _, _, ho, hc, hd, by decide, by decide⟩
  | txt x =>
    obtain ⟨t, o, ho, hc, hd⟩ := q
    refine ⟨o, _, _, ho, hc, hd, ?_, ?_⟩
    · unfold strIterType; split <;> decide
    · unfold strIterType; split <;> decide
theorem Cp.itr_at {h h' : Heap} {it : Addr} {i : Nat} (q : c.itr h it i) (e : ∀ o, h.get? it = some o → h'.get? it = some o) : c.itr h' it i := by
  cases c with
  | lst a => obtain ⟨o, ho, r⟩ := q; exact ⟨o, e _ ho, r⟩
  | tup a => obtain ⟨o, ho, r⟩ := q; exact ⟨o, e _ ho, r⟩
  | txt x => obtain ⟨t, o, ho, r⟩ := q; exact ⟨t, o, e _ ho, r⟩
end
section
variable {prog : Program} {w : World} {A : Around} {E : Value → Shared → Prop} {s : Shared} {c d : Cp} {xs ys : List V}
theorem nextOf_tuple_item {it t : Addr} {i : Nat} {items} {x : Value} {Q : Value → Shared → Prop} (hit : s.heap.IsTupleIter it t i)
    (ht : s.heap.IsTuple t items) (hx : items[i]? = some x)
    (hQ : ∀ h', h'.IsTupleIter it t (i + 1) → Heap.SameBut it s.heap h' → Q x { s with heap := h' }) :
    wpAny (model prog w) A (Builtin.SmallTypes.nextOf (.ref it)) Q E s := by
  obtain ⟨o, ho, hc, hd⟩ := id hit
  obtain ⟨ol, hol, _, nl, hdl⟩ := ht
  unfold Builtin.SmallTypes.nextOf
  refine wpAny_bind (wpAny_callSpecial?_slot (name := Str.ofString "__next__") hit.typeIs F.slot_tuple_iterator_next
    (wpAny_call_entry F.slot_tuple_iterator_next hit.typeIs F.entry_tuple_iterator_next ?_ (F.args_tuple_iterator_next_1 _)))
  show wpAny _ _ (field (.ref it) 0 >>= _) _ _ s
  refine wpAny_bind (wpAny_field ho hd (x := .ref t) rfl ?_)
  show wpAny _ _ (if (Value.ref t == Value.none) = true then _ else _) _ _ s
  rw [if_neg (show ¬ ((Value.ref t == Value.none) = true) from Bool.false_ne_true)]
  show wpAny _ _ (field (.ref it) 1 >>= _) _ _ s
  refine wpAny_bind (wpAny_field ho hd (x := .int i 0) rfl ?_)
  show wpAny _ _ (seqItems? (.ref t) >>= _) _ _ s
  refine wpAny_bind (wpAny_seqItems hol hdl ?_)
  simp only [Int.toNat_natCast, hx]
  refine wpAny_bind (wpAny_setField ho hd (by simp) (wpAny_pure ⟨x, rfl, wpAny_pure (hQ _ ?_ (Heap.SameBut.update ..))⟩))
  exact ⟨_, Heap.get?_update_self _ ho (Obj.isFreed_of_fields (Obj.data_mapFields hd _)), (Obj.cls_mapFields ..).trans hc, by
    rw [Obj.data_mapFields hd]; simp [rawInt]⟩
theorem nextOf_tuple_end {it t : Addr} {i : Nat} {items} {Q : Value → Shared → Prop} (hh : A.handled = none)
    (hit : s.heap.IsTupleIter it t i) (ht : s.heap.IsTuple t items) (hx : items[i]? = none)
    (hE : ∀ h' e, Heap.ExtBut it s.heap h' → (∃ o, h'.get? e = some o ∧ o.cls = .type "StopIteration") → E (.ref e) { s with heap := h' }) :
    wpAny (model prog w) A (Builtin.SmallTypes.nextOf (.ref it)) Q E s := by
  obtain ⟨o, ho, hc, hd⟩ := id hit
  obtain ⟨ol, hol, _, nl, hdl⟩ := ht
  unfold Builtin.SmallTypes.nextOf
  refine wpAny_bind (wpAny_callSpecial?_slot (name := Str.ofString "__next__") hit.typeIs F.slot_tuple_iterator_next
    (wpAny_call_entry F.slot_tuple_iterator_next hit.typeIs F.entry_tuple_iterator_next ?_ (F.args_tuple_iterator_next_1 _)))
  show wpAny _ _ (field (.ref it) 0 >>= _) _ _ s
  refine wpAny_bind (wpAny_field ho hd (x := .ref t) rfl ?_)
  show wpAny _ _ (if (Value.ref t == Value.none) = true then _ else _) _ _ s
  rw [if_neg (show ¬ ((Value.ref t == Value.none) = true) from Bool.false_ne_true)]
  show wpAny _ _ (field (.ref it) 1 >>= _) _ _ s
  refine wpAny_bind (wpAny_field ho hd (x := .int i 0) rfl ?_)
  show wpAny _ _ (seqItems? (.ref t) >>= _) _ _ s
  refine wpAny_bind (wpAny_seqItems hol hdl ?_)
  simp only [Int.toNat_natCast, hx]
  refine wpAny_bind (wpAny_rule (wpAny_bind (wpAny_setField ho hd (by simp) ?_)))
  show wpAny _ _ (newExc (.type "StopIteration") [] >>= _) _ _ _
  refine wpAny_bind ?_
  simp only [newExc, newTuple]
  refine wpAny_bind (wpAny_newObj_type ?_ (by size_fits))
  refine wpAny_bind (m := firstArgMember _ _) (wpAny_of_eq (a := Value.none) (by first | rfl | (simp only [firstArgMember]; rfl)) ?_)
  refine wpAny_newObj_type ?_ (by size_fits)
  simp only [raiseNew]
  refine wpAny_bind (wpAny_handled ?_)
  first | rw [show A.in1.handled = none from hh] | rw [hh]
  refine wpAny_bind (wpAny_pure (wpAny_throw ?_))
  exact hE _ _ (((Heap.SameBut.update ..).extBut.push _).push _) ⟨_, Heap.get?_push_size _ rfl, rfl⟩
theorem signs_get {x : Str} {i : Nat} {v : V} (h : (signsV x)[i]? = some v) : ∃ k, x.cps[i]? = some k ∧ v = .str ⟨#[k]⟩ := by
  unfold signsV at h
  rw [List.getElem?_map] at h
  cases e : x.cps.toList[i]? with
  | none => rw [e] at h; cases h
  | some k =>
    rw [e] at h
    exact ⟨k, by simpa using e, (Option.some.inj h).symm⟩
theorem signs_end {x : Str} {i : Nat} (h : (signsV x)[i]? = none) : x.cps[i]? = none := by
  unfold signsV at h
  rw [List.getElem?_map] at h
  cases e : x.cps.toList[i]? with
  | none => simpa using e
  | some k => rw [e] at h; cases h
theorem Cp.item {it : Addr} {i : Nat} {x : V} {Q : Value → Shared → Prop} (hit : c.itr s.heap it i) (hs : c.src s.heap xs) (hx : xs[i]? = some x)
    (hQ : ∀ u h' tk, RelV x u → c.itr h' it (i + 1) → Heap.SameBut it s.heap h' → Q u { s with heap := h', toks := tk }) :
    wpAny (model prog w) A (Builtin.SmallTypes.nextOf (.ref it)) Q E s := by
  cases c with
  | lst a =>
    obtain ⟨its, r, p⟩ := hs
    obtain ⟨u, hu, ru⟩ := r.get hx
    exact wpAny_nextOf_list_item hit p (x := u) (by simpa using hu) fun h' q sb => hQ u h' s.toks ru q sb
  | tup a =>
    obtain ⟨its, r, p⟩ := hs
    obtain ⟨u, hu, ru⟩ := r.get hx
    exact nextOf_tuple_item hit p (x := u) (by simpa using hu) fun h' q sb => hQ u h' s.toks ru q sb
  | txt x' =>
    obtain ⟨t, q⟩ := hit
    rw [show xs = signsV x' from hs] at hx
    obtain ⟨k, hk, rfl⟩ := signs_get hx
    unfold strIterType at q
    by_cases ha : (x'.cps.all (· < 128)) = true
    · rw [if_pos ha] at q
      exact wpAny_nextOf_ascii_item q hk fun h' q' sb => hQ _ h' _ ⟨_, rfl⟩ ⟨t, by unfold strIterType; rw [if_pos ha]; exact q'⟩ sb
    · rw [if_neg ha] at q
      exact wpAny_nextOf_wide_item q hk fun h' q' sb => hQ _ h' _ ⟨_, rfl⟩ ⟨t, by unfold strIterType; rw [if_neg ha]; exact q'⟩ sb
theorem Cp.fin {it : Addr} {i : Nat} {Q : Value → Shared → Prop} (hh : A.handled = none) (hit : c.itr s.heap it i) (hs : c.src s.heap xs) (hx : xs[i]? = none)
    (hE : ∀ h' e, Heap.ExtBut it s.heap h' → (∃ o, h'.get? e = some o ∧ o.cls = .type "StopIteration") → E (.ref e) { s with heap := h' }) :
    wpAny (model prog w) A (Builtin.SmallTypes.nextOf (.ref it)) Q E s := by
  cases c with
  | lst a =>
    obtain ⟨its, r, p⟩ := hs
    exact wpAny_nextOf_list_end hh hit p (by simpa using r.none_of hx) hE
  | tup a =>
    obtain ⟨its, r, p⟩ := hs
    exact nextOf_tuple_end hh hit p (by simpa using r.none_of hx) hE
  | txt x' =>
    obtain ⟨t, q⟩ := hit
    rw [show xs = signsV x' from hs] at hx
    have hk := signs_end hx
    unfold strIterType at q
    by_cases ha : (x'.cps.all (· < 128)) = true
    · rw [if_pos ha] at q
      exact wpAny_nextOf_ascii_end hh q hk hE
    · rw [if_neg ha] at q
      exact wpAny_nextOf_wide_end hh q hk hE
/-! ### zip of two -/
structure ZipOff (z TI TO i1 i2 : Addr) : Prop where
  TIz : TI ≠ z
  TOz : TO ≠ z
  i1z : i1 ≠ z
  i2z : i2 ≠ z
  TITO : TI ≠ TO
  TIi1 : TI ≠ i1
  TIi2 : TI ≠ i2
  TOi1 : TO ≠ i1
  TOi2 : TO ≠ i2
  i12 : i1 ≠ i2
structure ZipSt (h : Heap) (z TI TO i1 i2 : Addr) (c d : Cp) (f0 : Value) (i : Nat) : Prop where
  zz : IsZip h z TI TO f0
  ti : IsPair h TI (.ref i1) (.ref i2)
  to : ∃ a b, IsPair h TO a b
  h1 : c.itr h i1 i
  h2 : d.itr h i2 i
  /-- its own pair is none of the two -/
  c1 : c.off TO
  c2 : d.off TO
theorem zip_item {z TI TO i1 i2 : Addr} {i : Nat} {x y : V} {Q : Option Value → Shared → Prop} (D : ZipOff z TI TO i1 i2) (Z : ZipSt s.heap z TI TO i1 i2 c d .none i)
    (sc : c.src s.heap xs) (sd : d.src s.heap ys) (hx : xs[i]? = some x) (hy : ys[i]? = some y)
    (hQ : ∀ u v h' tk, RelV x u → RelV y v → ZipSt h' z TI TO i1 i2 c d (rawInt s.heap.objs.size) (i + 1) → IsPair h' s.heap.objs.size u v →
      (∀ b o, b ≠ z → b ≠ TO → b ≠ i1 → b ≠ i2 → s.heap.get? b = some o → h'.get? b = some o) → Q (some (.ref s.heap.objs.size)) { s with heap := h', toks := tk }) :
    wpAny (model prog w) A (pyNext (.ref z)) Q E s := by
  obtain ⟨hz, hTI, ⟨a, b, hTO⟩, h1, h2, c1, c2⟩ := id Z
  have hT : s.TypeIs (.ref z) "zip" := ⟨_, hz, rfl⟩
  obtain ⟨oi1, T1, _, hi1, ci1, _, n11, n12⟩ := Cp.itr_obj h1
  obtain ⟨oi2, T2, _, hi2, ci2, _, n21, n22⟩ := Cp.itr_obj h2
  have cz : c.off z := Cp.off_of sc hz rfl (by decide) (by decide)
  have dz : d.off z := Cp.off_of sd hz rfl (by decide) (by decide)
  have ci : c.off i1 := Cp.off_of sc hi1 ci1 n11 n12
  have di : d.off i1 := Cp.off_of sd hi1 ci1 n11 n12
  unfold pyNext
  refine wpAny_bind (wpAny_attempt (wpAny_callSpecial?_slot (name := Str.ofString "__next__") hT F.slot_zip_next
    (wpAny_call_entry F.slot_zip_next hT F.entry_zip_next ?_ (F.args_zip_next_1 _))))
  show wpAny _ _ (field (.ref z) 2 >>= _) _ _ _
  refine wpAny_bind (wpAny_field hz rfl (x := .bool false) rfl ?_)
  show wpAny _ _ (field (.ref z) 3 >>= _) _ _ _
  refine wpAny_bind (wpAny_field hz rfl (x := .ref TI) rfl ?_)
  refine wpAny_bind (wpAny_seqItems hTI rfl ?_)
  show wpAny _ _ (Builtin.SmallTypes.ownedTupleIsFree (.ref z) >>= _) _ _ _
  refine wpAny_bind ?_
  unfold Builtin.SmallTypes.ownedTupleIsFree
  refine wpAny_bind (wpAny_field hz rfl (x := .none) rfl (wpAny_pure ?_))
  simp only [if_true]
  refine wpAny_bind (wpAny_rule ?_)
  refine wpAny_bind (wpAny_field hz rfl (x := .ref TO) rfl ?_)
  refine wpAny_bind (wpAny_setField_rec hz (by simp) fun h₁ hz₁ hs₁ => ?_)
  replace hz₁ : IsZip h₁ z TI TO .ellipsis := hz₁
  refine wpAny_bind ?_
  simp only [List.zipIdx_cons, List.zipIdx_nil, List.forIn_cons, List.forIn_nil]
  refine wpAny_bind (wpAny_bind (wpAny_onRaise ?_))
  show wpAny _ _ (Builtin.SmallTypes.nextOf (.ref i1) >>= _) _ _ _
  refine wpAny_bind (Cp.item (c := c) (Cp.itr_at h1 fun o e => hs₁.extBut _ _ D.i1z e) (Cp.src_ext sc hs₁.extBut cz) hx fun u h₂ tk₂ ru h1₂ hs₂ => wpAny_pure ?_)
  have hTO₂ : IsPair h₂ TO a b := hs₂.extBut _ _ D.TOi1 (hs₁.extBut _ _ D.TOz hTO)
  refine wpAny_bind (wpAny_seqItems hTO₂ rfl ?_)
  refine wpAny_bind (wpAny_updateSeq_pair hTO₂ fun h₃ hTO₃ hs₃ => ?_)
  replace hTO₃ : IsPair h₃ TO u b := hTO₃
  refine wpAny_bind (wpAny_letGo (wpAny_pure ?_))
  refine wpAny_bind (wpAny_bind (wpAny_onRaise ?_))
  show wpAny _ _ (Builtin.SmallTypes.nextOf (.ref i2) >>= _) _ _ _
  refine wpAny_bind (Cp.item (c := d) (Cp.itr_at h2 fun o e => hs₃.extBut _ _ D.TOi2.symm (hs₂.extBut _ _ D.i12.symm (hs₁.extBut _ _ D.i2z e))) (Cp.src_ext (Cp.src_ext (Cp.src_ext sd hs₁.extBut dz) hs₂.extBut di) hs₃.extBut c2) hy fun v h₄ tk₄ rv h2₄ hs₄ => wpAny_pure ?_)
  have hTO₄ : IsPair h₄ TO u b := hs₄.extBut _ _ D.TOi2 hTO₃
  refine wpAny_bind (wpAny_seqItems hTO₄ rfl ?_)
  refine wpAny_bind (wpAny_updateSeq_pair hTO₄ fun h₅ hTO₅ hs₅ => ?_)
  replace hTO₅ : IsPair h₅ TO u v := hTO₅
  refine wpAny_bind (wpAny_letGo (wpAny_pure (wpAny_pure ?_)))
  refine wpAny_bind (wpAny_seqItems hTO₅ rfl ?_)
  refine wpAny_bind (wpAny_newTuple ?_)
  have hsz : h₅.objs.size = s.heap.objs.size := by rw [hs₅.1, hs₄.1, hs₃.1, hs₂.1, hs₁.1]
  have hz₅ : IsZip h₅ z TI TO .ellipsis := hs₅.extBut _ _ D.TOz.symm (hs₄.extBut _ _ D.i2z.symm (hs₃.extBut _ _ D.TOz.symm (hs₂.extBut _ _ D.i1z.symm hz₁)))
  have hk₅ : ∀ e o, e ≠ z → e ≠ TO → e ≠ i1 → e ≠ i2 → s.heap.get? e = some o → h₅.get? e = some o := fun e o e1 e2 e3 e4 q =>
    hs₅.extBut _ _ e2 (hs₄.extBut _ _ e4 (hs₃.extBut _ _ e2 (hs₂.extBut _ _ e3 (hs₁.extBut _ _ e1 q))))
  have h1₅ : c.itr h₅ i1 (i + 1) := Cp.itr_at h1₂ fun o e => hs₅.extBut _ _ D.TOi1.symm (hs₄.extBut _ _ D.i12 (hs₃.extBut _ _ D.TOi1.symm e))
  have h2₅ : d.itr h₅ i2 (i + 1) := Cp.itr_at h2₄ fun o e => hs₅.extBut _ _ D.TOi2.symm e
  have hzlt : z < h₅.objs.size := Heap.lt_size hz₅
  show wpAny _ _ (Builtin.SmallTypes.ownedTupleHandOut (.ref z) (.ref h₅.objs.size) >>= _) _ _ _
  refine wpAny_bind ?_
  unfold Builtin.SmallTypes.ownedTupleHandOut
  have hz₆ : IsZip (h₅.push { cls := .type "tuple", data := .seq #[u, v] }) z TI TO .ellipsis := Heap.get?_push_of_some _ hz₅
  refine wpAny_bind (wpAny_setField_rec hz₆ (by simp) fun h₇ hz₇ hs₇ => ?_)
  replace hz₇ : IsZip h₇ z TI TO (rawInt h₅.objs.size) := hz₇
  refine wpAny_setField_rec hz₇ (by simp) fun h₈ hz₈ hs₈ => ?_
  replace hz₈ : IsZip h₈ z TI TO (rawInt h₅.objs.size) := hz₈
  have up : ∀ e o, e ≠ z → h₅.get? e = some o → h₈.get? e = some o := fun e o e1 q => hs₈.extBut _ _ e1 (hs₇.extBut _ _ e1 (Heap.get?_push_of_some _ q))
  have hT₈ : IsPair h₈ h₅.objs.size u v := hs₈.extBut _ _ (Nat.ne_of_gt hzlt) (hs₇.extBut _ _ (Nat.ne_of_gt hzlt) (Heap.get?_push_size _ rfl))
  rw [hsz] at hz₈ hT₈
  refine wpAny_pure ⟨_, rfl, wpAny_pure ?_⟩
  show Q (some (.ref h₅.objs.size)) _
  rw [hsz]
  exact hQ u v h₈ _ ru rv ⟨hz₈, up _ _ D.TIz (hk₅ _ _ D.TIz D.TITO D.TIi1 D.TIi2 hTI), ⟨_, _, up _ _ D.TOz hTO₅⟩, Cp.itr_at h1₅ fun o e => up _ o D.i1z e, Cp.itr_at h2₅ fun o e => up _ o D.i2z e, c1, c2⟩ hT₈
    fun e o e1 e2 e3 e4 q => up e o e1 (hk₅ e o e1 e2 e3 e4 q)
theorem zip_fin {z TI TO i1 i2 : Addr} {i : Nat} {Q : Option Value → Shared → Prop} (hh : A.handled = none) (D : ZipOff z TI TO i1 i2) (Z : ZipSt s.heap z TI TO i1 i2 c d .none i)
    (sc : c.src s.heap xs) (sd : d.src s.heap ys) (hend : xs[i]? = none ∨ ys[i]? = none)
    (hQ : ∀ h' tk, (∀ b o, b ≠ z → b ≠ TO → b ≠ i1 → b ≠ i2 → s.heap.get? b = some o → h'.get? b = some o) → Q none { s with heap := h', toks := tk }) :
    wpAny (model prog w) A (pyNext (.ref z)) Q E s := by
  obtain ⟨hz, hTI, ⟨a, b, hTO⟩, h1, h2, c1, c2⟩ := id Z
  have hT : s.TypeIs (.ref z) "zip" := ⟨_, hz, rfl⟩
  obtain ⟨oi1, T1, _, hi1, ci1, _, n11, n12⟩ := Cp.itr_obj h1
  have cz : c.off z := Cp.off_of sc hz rfl (by decide) (by decide)
  have dz : d.off z := Cp.off_of sd hz rfl (by decide) (by decide)
  have ci : c.off i1 := Cp.off_of sc hi1 ci1 n11 n12
  have di : d.off i1 := Cp.off_of sd hi1 ci1 n11 n12
  have stop : ∀ (h' : Heap) (e : Addr) (tk : Nat), (∃ o, h'.get? e = some o ∧ o.cls = .type "StopIteration") → (∀ b o, b ≠ z → b ≠ TO → b ≠ i1 → b ≠ i2 → s.heap.get? b = some o → h'.get? b = some o) →
      wpAny (model prog w) A (isInstance (.ref e) (.type "StopIteration") >>= fun b => if b = true then pure (none : Option Value) else throw (.ref e)) Q E { s with heap := h', toks := tk } := by
    intro h' e tk he hk
    obtain ⟨o, ho, hc⟩ := he
    refine wpAny_bind (wpAny_isInstance (T := "StopIteration") (b := true) ⟨o, ho, hc⟩ isSubtype_stop ?_)
    exact wpAny_pure (hQ _ _ hk)
  unfold pyNext
  refine wpAny_bind (wpAny_attempt (wpAny_callSpecial?_slot (name := Str.ofString "__next__") hT F.slot_zip_next
    (wpAny_call_entry F.slot_zip_next hT F.entry_zip_next ?_ (F.args_zip_next_1 _))))
  show wpAny _ _ (field (.ref z) 2 >>= _) _ _ _
  refine wpAny_bind (wpAny_field hz rfl (x := .bool false) rfl ?_)
  show wpAny _ _ (field (.ref z) 3 >>= _) _ _ _
  refine wpAny_bind (wpAny_field hz rfl (x := .ref TI) rfl ?_)
  refine wpAny_bind (wpAny_seqItems hTI rfl ?_)
  show wpAny _ _ (Builtin.SmallTypes.ownedTupleIsFree (.ref z) >>= _) _ _ _
  refine wpAny_bind ?_
  unfold Builtin.SmallTypes.ownedTupleIsFree
  refine wpAny_bind (wpAny_field hz rfl (x := .none) rfl (wpAny_pure ?_))
  simp only [if_true]
  refine wpAny_bind (wpAny_rule ?_)
  refine wpAny_bind (wpAny_field hz rfl (x := .ref TO) rfl ?_)
  refine wpAny_bind (wpAny_setField_rec hz (by simp) fun h₁ hz₁ hs₁ => ?_)
  replace hz₁ : IsZip h₁ z TI TO .ellipsis := hz₁
  refine wpAny_bind ?_
  simp only [List.zipIdx_cons, List.zipIdx_nil, List.forIn_cons, List.forIn_nil]
  refine wpAny_bind (wpAny_bind (wpAny_onRaise ?_))
  show wpAny _ _ (Builtin.SmallTypes.nextOf (.ref i1) >>= _) _ _ _
  cases hx : xs[i]? with
  | none =>
    refine wpAny_bind (Cp.fin (c := c) hh (Cp.itr_at h1 fun o e => hs₁.extBut _ _ D.i1z e) (Cp.src_ext sc hs₁.extBut cz) hx fun h₂ e hs₂ he => ?_)
    obtain ⟨oe, hoe, hce⟩ := he
    have hz₂ : IsZip h₂ z TI TO .ellipsis := hs₂ _ _ D.i1z.symm hz₁
    have hez : e ≠ z := fun x => by subst x; rw [hz₂] at hoe; cases hoe; simp at hce
    refine wpAny_setField_rec hz₂ (by simp) fun h₃ _ hs₃ => ?_
    exact stop h₃ e _ ⟨oe, hs₃.extBut _ _ hez hoe, hce⟩ fun k o c1 _ c3 _ x => hs₃.extBut _ _ c1 (hs₂ _ _ c3 (hs₁.extBut _ _ c1 x))
  | some x =>
    have hy : ys[i]? = none := by rcases hend with h | h; rw [hx] at h; cases h; exact h
    refine wpAny_bind (Cp.item (c := c) (Cp.itr_at h1 fun o e => hs₁.extBut _ _ D.i1z e) (Cp.src_ext sc hs₁.extBut cz) hx fun u h₂ tk₂ ru h1₂ hs₂ => wpAny_pure ?_)
    have hTO₂ : IsPair h₂ TO a b := hs₂.extBut _ _ D.TOi1 (hs₁.extBut _ _ D.TOz hTO)
    refine wpAny_bind (wpAny_seqItems hTO₂ rfl ?_)
    refine wpAny_bind (wpAny_updateSeq_pair hTO₂ fun h₃ hTO₃ hs₃ => ?_)
    refine wpAny_bind (wpAny_letGo (wpAny_pure ?_))
    refine wpAny_bind (wpAny_bind (wpAny_onRaise ?_))
    show wpAny _ _ (Builtin.SmallTypes.nextOf (.ref i2) >>= _) _ _ _
    refine wpAny_bind (Cp.fin (c := d) hh (Cp.itr_at h2 fun o e => hs₃.extBut _ _ D.TOi2.symm (hs₂.extBut _ _ D.i12.symm (hs₁.extBut _ _ D.i2z e))) (Cp.src_ext (Cp.src_ext (Cp.src_ext sd hs₁.extBut dz) hs₂.extBut di) hs₃.extBut c2) hy fun h₄ e hs₄ he => ?_)
    obtain ⟨oe, hoe, hce⟩ := he
    have hz₄ : IsZip h₄ z TI TO .ellipsis := hs₄ _ _ D.i2z.symm (hs₃.extBut _ _ D.TOz.symm (hs₂.extBut _ _ D.i1z.symm hz₁))
    have hez : e ≠ z := fun x => by subst x; rw [hz₄] at hoe; cases hoe; simp at hce
    refine wpAny_setField_rec hz₄ (by simp) fun h₅ _ hs₅ => ?_
    exact stop h₅ e _ ⟨oe, hs₅.extBut _ _ hez hoe, hce⟩ fun k o c1 c2 c3 c4 x => hs₅.extBut _ _ c1 (hs₄ _ _ c4 (hs₃.extBut _ _ c2 (hs₂.extBut _ _ c3 (hs₁.extBut _ _ c1 x))))
def Cp.itObj (t : Tok) : Cp → Obj
  | .lst a => { cls := .type "list_iterator", data := .fields #[.ref a, .int 0 0] }
  | .tup a => { cls := .type "tuple_iterator", data := .fields #[.ref a, .int 0 0] }
  | .txt x => { cls := .type (strIterType x), data := .fields #[.str x t, .int 0 0] }
def Cp.value (t : Tok) : Cp → Value
  | .lst a => .ref a
  | .tup a => .ref a
  | .txt x => .str x t
theorem Cp.value_of {u : Value} (r : RelV c.val u) : ∃ t, u = c.value t := by
  cases c with
  | lst a => exact ⟨0, r⟩
  | tup a => exact ⟨0, r⟩
  | txt x => exact r
theorem Cp.iter {t : Tok} {Q : Value → Shared → Prop} (hs : c.src s.heap xs) (hQ : Q (.ref s.heap.objs.size) { s with heap := s.heap.push (c.itObj t) }) : wpAny (model prog w) A (pyIter (c.value t)) Q E s := by
  cases c with
  | lst a => obtain ⟨its, _, p⟩ := hs; exact wpAny_pyIter_list p hQ
  | tup a => obtain ⟨its, _, p⟩ := hs; exact wpAny_pyIter_tuple p hQ
  | txt x => exact wpAny_pyIter_strU hQ
theorem Cp.itr_new {t : Tok} {h : Heap} {it : Addr} (e : h.get? it = some (c.itObj t)) : c.itr h it 0 := by
  cases c with
  | lst a => exact ⟨_, e, rfl, rfl⟩
  | tup a => exact ⟨_, e, rfl, rfl⟩
  | txt x => exact ⟨t, _, e, rfl, rfl⟩
abbrev zH1 (h : Heap) (o1 : Obj) : Heap := h.push o1
abbrev zH2 (h : Heap) (o1 o2 : Obj) : Heap := (zH1 h o1).push o2
abbrev zH3 (h : Heap) (o1 o2 : Obj) : Heap := (zH2 h o1 o2).push { cls := .type "tuple", data := .seq #[.ref h.objs.size, .ref (zH1 h o1).objs.size] }
abbrev zH4 (h : Heap) (o1 o2 : Obj) : Heap := (zH3 h o1 o2).push { cls := .type "tuple", data := .seq #[.none, .none] }
abbrev zH5 (h : Heap) (o1 o2 : Obj) : Heap := (zH4 h o1 o2).push { cls := .type "zip", data := .fields #[.none, .bool false, .bool false, .ref (zH2 h o1 o2).objs.size, .ref (zH3 h o1 o2).objs.size] }
theorem meets_zip (c d : Cp) (t1 t2 : Tok) (xs ys : List V) :
    Meets (Builtin.«zip.__new__» ⟨[.type "zip", c.value t1, d.value t2], []⟩) (fun _ R s => c.src s.heap xs ∧ d.src s.heap ys ∧
      R (.ok (.ret (.ref (zH4 s.heap (c.itObj t1) (d.itObj t2)).objs.size))) { s with heap := zH5 s.heap (c.itObj t1) (d.itObj t2) }) :=
  .of_wp fun prog w A R s h => by
    obtain ⟨hp, g, dd, tk, os⟩ := s; obtain ⟨hl1, hl2, h⟩ := h
    have hsub := sub_zip
    have hL1 : c.src (Shared.heap ⟨hp, g, dd, tk, os⟩) xs := hl1
    have hL2 : d.src (Shared.heap ⟨hp.push (c.itObj t1), g, dd, tk, os⟩) ys := Cp.src_keep hl2 fun b o e => Heap.get?_push_of_some _ e
    wp_walk using Cp.iter (t := t1) hL1, Cp.iter (t := t2) hL2
    exact ⟨_, rfl, h⟩
theorem call_zipC {t1 t2 : Tok} {Q : Value → Shared → Prop} (sc : c.src s.heap xs) (sd : d.src s.heap ys)
    (h : ∀ h', IsZip h' (s.heap.objs.size + 4) (s.heap.objs.size + 2) (s.heap.objs.size + 3) .none → IsPair h' (s.heap.objs.size + 2) (.ref s.heap.objs.size) (.ref (s.heap.objs.size + 1)) →
      IsPair h' (s.heap.objs.size + 3) .none .none → c.itr h' s.heap.objs.size 0 → d.itr h' (s.heap.objs.size + 1) 0 → (∀ b o, s.heap.get? b = some o → h'.get? b = some o) → Q (.ref (s.heap.objs.size + 4)) { s with heap := h' }) :
    wpAny (model prog w) A (call (.type "zip") [c.value t1, d.value t2]) Q E s := by
  refine callType_new F.called_zip (by decide) (F.typeCall_zip_2 _ _) (F.newCall_zip_2 _ _) (fun obj => F.args_object_init_3 obj _ _) F.entry_zip_new
    (meets_zip c d t1 t2 xs ys) ⟨sc, sd, ?_⟩
  have z1 : (zH1 s.heap (c.itObj t1)).objs.size = s.heap.objs.size + 1 := Heap.size_push ..
  have z2 : (zH2 s.heap (c.itObj t1) (d.itObj t2)).objs.size = s.heap.objs.size + 2 := by rw [Heap.size_push, z1]
  have z3 : (zH3 s.heap (c.itObj t1) (d.itObj t2)).objs.size = s.heap.objs.size + 3 := by rw [Heap.size_push, z2]
  have z4 : (zH4 s.heap (c.itObj t1) (d.itObj t2)).objs.size = s.heap.objs.size + 4 := by rw [Heap.size_push, z3]
  have it1 : (c.itObj t1).isFreed = false := by cases c <;> rfl
  have it2 : (d.itObj t2).isFreed = false := by cases d <;> rfl
  have g5 : (zH5 s.heap (c.itObj t1) (d.itObj t2)).get? (zH4 s.heap (c.itObj t1) (d.itObj t2)).objs.size = some _ := Heap.get?_push_size _ rfl
  have g4 : (zH5 s.heap (c.itObj t1) (d.itObj t2)).get? (zH3 s.heap (c.itObj t1) (d.itObj t2)).objs.size = some _ := Heap.get?_push_of_some _ (Heap.get?_push_size _ rfl)
  have g3 : (zH5 s.heap (c.itObj t1) (d.itObj t2)).get? (zH2 s.heap (c.itObj t1) (d.itObj t2)).objs.size = some _ := Heap.get?_push_of_some _ (Heap.get?_push_of_some _ (Heap.get?_push_size _ rfl))
  have g2 : (zH5 s.heap (c.itObj t1) (d.itObj t2)).get? (zH1 s.heap (c.itObj t1)).objs.size = some _ := Heap.get?_push_of_some _ (Heap.get?_push_of_some _ (Heap.get?_push_of_some _ (Heap.get?_push_size _ it2)))
  have g1 : (zH5 s.heap (c.itObj t1) (d.itObj t2)).get? s.heap.objs.size = some _ := Heap.get?_push_of_some _ (Heap.get?_push_of_some _ (Heap.get?_push_of_some _ (Heap.get?_push_of_some _ (Heap.get?_push_size _ it1))))
  show _ ∧ _
  rw [z2, z3, z4] at g5
  rw [z1, z2] at g3
  rw [z3] at g4
  rw [z1] at g2
  rw [z4]
  exact ⟨⟨_, g5, rfl⟩, h _ g5 g3 g4 (Cp.itr_new g1) (Cp.itr_new g2) fun b o x =>
    Heap.get?_push_of_some _ (Heap.get?_push_of_some _ (Heap.get?_push_of_some _ (Heap.get?_push_of_some _ (Heap.get?_push_of_some _ x))))⟩
end
section
variable {X : Cx} {pins : List (Addr × Obj)} {σ : St} {H : Hp} {s : Shared}
theorem Inv.moved {h' : Heap} {t' : Nat} {ch : List Addr} (I : Inv X pins σ H s) (k : ∀ b o, b ∉ ch → s.heap.get? b = some o → h'.get? b = some o) (hf : ∀ b ∈ ch, FpOk X pins H b) (ht : s.toks ≤ t' := by first | exact Nat.le_refl _ | exact Nat.le_succ _ | assumption | omega) : Inv X pins σ H { s with heap := h', toks := t' } := by
  have nch : ∀ b u, H b = some u → b ∉ ch := fun b u e z => by rw [(hf b z).1] at e; cases e
  refine I.step (g' := s.gens) (d' := s.drawn) (ch := ch) (fun b hb => ?_) (fun b o _ _ hc e _ => k b o hc e) (fun b o _ _ hc e _ => ⟨o.slots, k b o hc e⟩) (fun _ _ _ _ n => n)
    (fun b o hc e => ⟨o, k b o hc e⟩) (fun _ _ e => e) (fun _ _ _ e => e) (fun b ps e => ⟨#[], by rw [e]; simp⟩) (fun m hm => ?_) (fun b u e => ?_) I.bare (Nat.le_trans I.up ht)
  · obtain ⟨_, h1, _, h3, h4, h5⟩ := hf b hb
    exact ⟨h3, h1, h4, h5⟩
  · obtain ⟨o, es, ep, ho, r⟩ := hm
    exact ⟨o, es, ep, k _ o (fun z => (hf _ z).2.1 rfl) ho, r⟩
  · refine (I.hok b u e).stay (fun c v hc q => k c v ?_ q) (fun _ q => q) fun _ _ q => q
    rcases hc with z | z
    · rw [z]; exact nch b u e
    · exact nch c _ z
theorem Inv.track {a : Addr} {o : HO} (I : Inv X pins σ H s) (hf : FpOk X pins H a) (new : ObjOk X.prog X.w (upd H a o) s.heap a o) : Inv X pins σ (upd H a o) s := by
  have hn := hf.1
  have e : s = { s with heap := s.heap, gens := s.gens, drawn := s.drawn, toks := s.toks } := rfl
  rw [e]
  refine I.step (ch := [a]) (fun b hb => ?_) (fun _ _ _ _ _ e _ => e) (fun _ o _ _ _ e _ => ⟨o.slots, e⟩) (fun b _ hc _ n => ?_)
    (fun _ o _ e => ⟨o, e⟩) (fun b _ e => ?_) (fun b _ _ e => ?_) (fun b ps e => ⟨#[], ?_⟩) (fun _ hm => hm) (fun b u q => ?_) I.bare I.up
  · have eb : b = a := by simpa using hb
    subst eb
    obtain ⟨_, h1, _, h3, h4, h5⟩ := hf
    exact ⟨h3, h1, h4, h5⟩
  · rw [upd_ne (fun z => hc (by simp [z]))]; exact n
  · rw [upd_ne (ne_of_none e hn)]; exact e
  · rw [upd_ne (ne_of_none e hn)]; exact e
  · rw [upd_ne (ne_of_none e hn), e]; simp
  · by_cases hb : b = a
    · subst hb; rw [upd_same] at q; cases q; exact new
    · rw [upd_ne hb] at q
      exact (I.hok b u q).stay (fun c v _ r => r) (fun c r => by rw [upd_ne (ne_of_none r hn)]; exact r) fun c xs r => by rw [upd_ne (ne_of_none r hn)]; exact r
def Itz (K : PySem.W.Frag) (c d : Cp) : It :=
  ⟨fun i H => ∃ xs ys x y, c.at K H xs ∧ d.at K H ys ∧ xs[i]? = some x ∧ ys[i]? = some y,
   fun i H v H' => ∃ p x y, v = .ref p ∧ H p = none ∧ H' = upd H p (.tup [x, y]) ∧ ∀ xs ys, c.at K H xs → d.at K H ys → xs[i]? = some x ∧ ys[i]? = some y,
   fun i H => ∃ xs ys, c.at K H xs ∧ d.at K H ys ∧ (xs.length ≤ i ∨ ys.length ≤ i)⟩
theorem turn_zip {P : Program} {w : World} {K : PySem.W.Frag} {elts : List Expr} {k : Nat} {pos : Pos} {c d : Cp} {z TI TO i1 i2 : Addr} (D : ZipOff z TI TO i1 i2) :
    Turn P w K (.Tuple elts k pos) (Itz K c d) [z, TI, TO, i1, i2] z (fun i h => ZipSt h z TI TO i1 i2 c d .none i) where
  mem := by simp
  obj := fun i h Z b hb => by
    obtain ⟨hz, hTI, ⟨a, b', hTO⟩, h1, h2, _, _⟩ := Z
    obtain ⟨oi1, T1, v1, hi1, _, d1, _⟩ := Cp.itr_obj h1
    obtain ⟨oi2, T2, v2, hi2, _, d2, _⟩ := Cp.itr_obj h2
    simp only [List.mem_cons, List.not_mem_nil, or_false] at hb
    rcases hb with rfl | rfl | rfl | rfl | rfl
    · exact ⟨_, hz, fun v q => by cases q⟩
    · exact ⟨_, hTI, fun v q => by cases q⟩
    · exact ⟨_, hTO, fun v q => by cases q⟩
    · exact ⟨_, hi1, fun v q => by rw [d1] at q; cases q⟩
    · exact ⟨_, hi2, fun v q => by rw [d2] at q; cases q⟩
  keep := fun i h h' Z kp => by
    obtain ⟨hz, hTI, ⟨a, b', hTO⟩, h1, h2, o1, o2⟩ := Z
    exact ⟨kp z (by simp) _ hz, kp TI (by simp) _ hTI, ⟨a, b', kp TO (by simp) _ hTO⟩, Cp.itr_at h1 fun o e => kp i1 (by simp) o e, Cp.itr_at h2 fun o e => kp i2 (by simp) o e, o1, o2⟩
  item := by
    intro X hP hw hK hc i pins s σ H E I hf Z hg
    subst hP hw hK
    obtain ⟨xs, ys, x, y, hx, hy, ex, ey⟩ := hg
    have sc := Cp.src_of I hx
    have sd := Cp.src_of I hy
    refine TK.wpAny_up (Nat.le_refl s.toks) (zip_item D Z sc sd ex ey fun u v h' tk ru rv Z' hp kk hup => ⟨_, rfl, ?_⟩)
    refine wpAny_letOwnedTupleGo_zip Z'.zz fun h'' hz'' sb => ?_
    have hnz : s.heap.objs.size ≠ z := Nat.ne_of_gt (Heap.lt_size Z.zz)
    have k2 : ∀ b o, b ∉ [z, TI, TO, i1, i2] → s.heap.get? b = some o → h''.get? b = some o := fun b o hb e => by
      simp only [List.mem_cons, List.not_mem_nil, or_false, not_or] at hb
      exact sb.extBut _ _ hb.1 (kk b o hb.1 hb.2.2.1 hb.2.2.2.1 hb.2.2.2.2 e)
    have I1 : Inv X pins σ H { s with heap := h'', toks := tk } := I.moved k2 hf
    have hn : H s.heap.objs.size = none := I.fresh
    have fok : FpOk X pins H s.heap.objs.size := I.fpOk (Nat.le_refl _) hn
    have hp2 : IsPair h'' s.heap.objs.size u v := sb.extBut _ _ hnz hp
    have I2 : Inv X pins σ (upd H s.heap.objs.size (.tup [x, y])) { s with heap := h'', toks := tk } :=
      I1.track fok ⟨by show 2 ≤ sizeLine; decide, [u, v], .cons ru (.cons rv .nil), ⟨_, hp2, rfl, _, rfl⟩⟩
    refine ⟨.ref s.heap.objs.size, _, I2, rfl, ⟨_, x, y, rfl, hn, rfl, fun xs' ys' hx' hy' => ?_⟩, ?_, fun b hb => ?_⟩
    · rw [Cp.at_inj I hx' hx, Cp.at_inj I hy' hy]; exact ⟨ex, ey⟩
    · obtain ⟨_, hTI, ⟨a, b', hTO⟩, h1, h2, o1, o2⟩ := Z'
      exact ⟨hz'', sb.extBut _ _ D.TIz hTI, ⟨a, b', sb.extBut _ _ D.TOz hTO⟩, Cp.itr_at h1 fun o e => sb.extBut _ _ D.i1z e, Cp.itr_at h2 fun o e => sb.extBut _ _ D.i2z e, o1, o2⟩
    · have lt : b < s.heap.objs.size := by
        obtain ⟨hz, hTI, ⟨a, b', hTO⟩, h1, h2, _, _⟩ := Z
        obtain ⟨oi1, T1, v1, hi1, _, d1, _⟩ := Cp.itr_obj h1
        obtain ⟨oi2, T2, v2, hi2, _, d2, _⟩ := Cp.itr_obj h2
        simp only [List.mem_cons, List.not_mem_nil, or_false] at hb
        rcases hb with rfl | rfl | rfl | rfl | rfl
        · exact Heap.lt_size hz
        · exact Heap.lt_size hTI
        · exact Heap.lt_size hTO
        · exact Heap.lt_size hi1
        · exact Heap.lt_size hi2
      rw [upd_ne (Nat.ne_of_lt lt)]
      exact (hf b hb).1
  done := by
    intro X hP hw hK hc i pins s σ H E I hf Z hg
    subst hP hw hK
    obtain ⟨xs, ys, hx, hy, he⟩ := hg
    refine TK.wpAny_up (Nat.le_refl s.toks) (zip_fin (I.ok.hd hc) D Z (Cp.src_of I hx) (Cp.src_of I hy) (he.imp (fun q => List.getElem?_eq_none q) fun q => List.getElem?_eq_none q) fun h' tk kk hup => ⟨rfl, ?_⟩)
    exact I.moved (fun b o hb e => by
      simp only [List.mem_cons, List.not_mem_nil, or_false, not_or] at hb
      exact kk b o hb.1 hb.2.2.1 hb.2.2.2.1 hb.2.2.2.2 e) hf
  self := fun _ _ _ _ _ Z h => wpAny_pyIter_zip Z.zz h
theorem zipOff_new (n : Nat) : ZipOff (n + 4) (n + 2) (n + 3) n (n + 1) := by
  have ne : ∀ {a b : Nat}, a < b → a ≠ b := fun h => Nat.ne_of_lt h
  exact ⟨ne (by omega), ne (by omega), ne (by omega), ne (by omega), ne (by omega), (ne (by omega)).symm, (ne (by omega)).symm, (ne (by omega)).symm, (ne (by omega)).symm, ne (by omega)⟩
def iZip (K : PySem.W.Frag) (ta : TA) : TI := fun σ H R => ta σ H fun vs H1 => ∃ c d xs ys, vs = [c.val, d.val] ∧ c.at K H1 xs ∧ d.at K H1 ys ∧ R (Itz K c d) H1
theorem pi_zip {a b : Expr} {ta : TA} {p pos : Pos} {elts : List Expr} {k : Nat} {tpos : Pos} (hc : X.calm = true) (hg : Gl X "zip") (hm : X.mg "zip" = none) (ha : PA X [a, b] ta)
    (hs : starEach [a, b] X.env = [(false, eval a X.env), (false, eval b X.env)] := by rfl) (hs2 : starEach [b] X.env = [(false, eval b X.env)] := by rfl) :
    PI X (.Tuple elts k tpos) (.Call (.Name "zip" p) [a, b] [] pos) (iZip X.K ta) := by
  intro pins s σ H R I h
  refine Call_ (ld_blt I hg hm boot_zip (PyProof.Rows.callWith_type1 (thn (ha pos pins s σ H _ I h) fun us s1 ⟨vs, H1, I1, r1, q1⟩ => ?_) (by rw [hs, hs2]) (by rw [hs2]; rfl)))
  obtain ⟨c, d, xs, ys, e, hx, hy, q⟩ := q1
  subst e
  obtain ⟨u, v, rfl, ru, rv⟩ := vals2 r1
  obtain ⟨t1, rfl⟩ := Cp.value_of ru
  obtain ⟨t2, rfl⟩ := Cp.value_of rv
  have sc := Cp.src_of I1 hx
  have sd := Cp.src_of I1 hy
  refine call_zipC sc sd fun h' hz hTI hTO h1 h2 kk => wpAny_pyIter_zip hz ?_
  have D : ZipOff (s1.heap.objs.size + 4) (s1.heap.objs.size + 2) (s1.heap.objs.size + 3) s1.heap.objs.size (s1.heap.objs.size + 1) :=
    zipOff_new _
  refine ⟨_, [s1.heap.objs.size + 4, s1.heap.objs.size + 2, s1.heap.objs.size + 3, s1.heap.objs.size, s1.heap.objs.size + 1], _, _, H1, rfl, I1.kept (t' := s1.toks) kk, turn_zip D,
    ⟨hz, hTI, ⟨_, _, hTO⟩, h1, h2, Cp.off_new sc (Nat.le_add_right _ 3), Cp.off_new sd (Nat.le_add_right _ 3)⟩, fun b hb => ?_, q⟩
  have le : s1.heap.objs.size ≤ b := by
    simp only [List.mem_cons, List.not_mem_nil, or_false] at hb
    rcases hb with rfl | rfl | rfl | rfl | rfl
    · exact Nat.le_add_right _ _
    · exact Nat.le_add_right _ _
    · exact Nat.le_add_right _ _
    · exact Nat.le_refl _
    · exact Nat.le_add_right _ _
  exact I1.fpOk le (I1.hok.fresh le)
end
end L2

namespace L2
open PySem PySem.Spec PyProof.Rows
/-! ### a text, sign by sign -/
def Its (x : Str) : It := ⟨fun i _ => i < x.cps.size, fun i H v H' => H' = H ∧ ∃ k, x.cps[i]? = some k ∧ v = .str ⟨#[k]⟩, fun i _ => x.cps.size ≤ i⟩
section
variable {prog : Program} {w : World} {A : Around} {E : Value → Shared → Prop} {s : Shared}
theorem pyNext_txt_item {it : Addr} {x : Str} {t : Tok} {i k : Nat} {Q : Option Value → Shared → Prop} (hit : s.heap.IsStrIter it (strIterType x) x t i) (hx : x.cps[i]? = some k)
    (hQ : ∀ h', h'.IsStrIter it (strIterType x) x t (i + 1) → Heap.SameBut it s.heap h' → Q (some (.str ⟨#[k]⟩ s.toks)) { s with heap := h', toks := s.toks + 1 }) : wpAny (model prog w) A (pyNext (.ref it)) Q E s := by
  unfold strIterType at hit hQ
  by_cases ha : (x.cps.all (· < 128)) = true
  · rw [if_pos ha] at hit hQ
    exact wpAny_pyNext_ascii_item hit hx hQ
  · rw [if_neg ha] at hit hQ
    exact wpAny_pyNext_wide_item hit hx hQ
theorem pyNext_txt_end {it : Addr} {x : Str} {t : Tok} {i : Nat} {Q : Option Value → Shared → Prop} (hh : A.handled = none) (hit : s.heap.IsStrIter it (strIterType x) x t i) (hx : x.cps[i]? = none)
    (hQ : ∀ h', Heap.ExtBut it s.heap h' → Q none { s with heap := h' }) : wpAny (model prog w) A (pyNext (.ref it)) Q E s := by
  unfold strIterType at hit
  by_cases ha : (x.cps.all (· < 128)) = true
  · rw [if_pos ha] at hit
    exact wpAny_pyNext_ascii_end hh hit hx hQ
  · rw [if_neg ha] at hit
    exact wpAny_pyNext_wide_end hh hit hx hQ
theorem pyIter_txtiter {it : Addr} {x : Str} {t : Tok} {i : Nat} {Q : Value → Shared → Prop} (hit : s.heap.IsStrIter it (strIterType x) x t i) (h : Q (.ref it) s) : wpAny (model prog w) A (pyIter (.ref it)) Q E s := by
  unfold strIterType at hit
  by_cases ha : (x.cps.all (· < 128)) = true
  · rw [if_pos ha] at hit
    exact wpAny_pyIter_striter_ascii hit h
  · rw [if_neg ha] at hit
    exact wpAny_pyIter_striter_wide hit h
end
theorem strIter_notOwned (x : Str) : ["enumerate", "zip", "dict_itemiterator", "dict_reverseitemiterator", "odict_iterator", "itertools.zip_longest", "itertools.pairwise"].contains (strIterType x) = false := by
  unfold strIterType
  split <;> decide
theorem turn_txt {P : Program} {w : World} {K : PySem.W.Frag} {tg : Expr} (x : Str) (t : Tok) (it : Addr) : Turn P w K tg (Its x) [it] it (fun i h => h.IsStrIter it (strIterType x) x t i) where
  mem := by simp
  obj := fun i h st b hb => by
    have e : b = it := by simpa using hb
    subst e
    obtain ⟨o, e, c, d⟩ := st
    exact ⟨o, e, fun v z => by rw [d] at z; cases z⟩
  keep := fun i h h' st k => by
    obtain ⟨o, e, r⟩ := st
    exact ⟨o, k it (by simp) o e, r⟩
  item := by
    intro X hP hw hK hc i pins s σ H E I hf st hg
    subst hP hw hK
    have hi : i < x.cps.size := hg
    obtain ⟨f0, f1, f2, f3, f4, f5⟩ := hf it (by simp)
    refine pyNext_txt_item st (k := x.cps[i]) (by simp [hi]) fun h' st' sb => ?_
    have I1 : Inv X pins σ H { s with heap := h', toks := s.toks + 1 } := I.turned (fun b o hb e => (sb.2 b hb).trans e) f0 f1 f3 f4 f5
    obtain ⟨o, e, c, d⟩ := id st'
    exact ⟨_, rfl, go_of (s := { s with heap := h', toks := s.toks + 1 }) e c d (strIter_notOwned x) ⟨.str ⟨#[x.cps[i]]⟩, H, I1, ⟨_, rfl⟩, ⟨rfl, _, by simp [hi], rfl⟩, st', fun b hb => (hf b hb).1⟩⟩
  done := by
    intro X hP hw hK hc i pins s σ H E I hf st hg
    subst hP hw hK
    have hi : x.cps.size ≤ i := hg
    obtain ⟨f0, f1, f2, f3, f4, f5⟩ := hf it (by simp)
    exact pyNext_txt_end (I.ok.hd hc) st (by simp [hi]) fun h' eb => ⟨rfl, I.turned (t' := s.toks) (fun b o hb e => eb b o hb e) f0 f1 f3 f4 f5⟩
  self := fun _ _ _ _ _ st h => pyIter_txtiter st h
section
variable {X : Cx} {tg : Expr}
def iTxt (tl : TE) : TI := fun σ H R => tl σ H fun v H1 => ∃ x, v = .str x ∧ R (Its x) H1
theorem pi_txt {l : Expr} {tl : TE} (hl : PE X l tl) : PI X tg l (iTxt tl) := by
  intro pins s σ H R I h
  refine thn (hl pins s σ H _ I h) fun v s1 ⟨y, H1, I1, r1, q1⟩ => ?_
  obtain ⟨x, e, q⟩ := q1
  subst e
  obtain ⟨t, rfl⟩ := r1
  refine wpAny_pyIter_strU ?_
  refine ⟨s1.heap.objs.size, [s1.heap.objs.size], _, _, H1, rfl, I1.kept (t' := s1.toks) fun b o e => Heap.get?_push_of_some _ e, turn_txt x t _, ⟨_, Heap.get?_push_size _ rfl, rfl, rfl⟩, fun b hb => ?_, q⟩
  have e : b = s1.heap.objs.size := by simpa using hb
  subst e
  exact I1.fpOk (Nat.le_refl _) (I1.hok.fresh (Nat.le_refl _))
theorem for_zip {K : PySem.W.Frag} {c d : Cp} {xs ys : List V} {g : TG} {tb : TS} {D : Ends} {σ : St} {H : Hp} (Pv : Nat → St → Hp → Prop) (h0 : Pv 0 σ H) (hl : ∀ i σ H, i ≤ min xs.length ys.length → Pv i σ H → c.at K H xs ∧ d.at K H ys)
    (hs : ∀ i x y p σ H, xs[i]? = some x → ys[i]? = some y → H p = none → Pv i σ H → g (.ref p) σ (upd H p (.tup [x, y])) fun σ2 H2 => tb { D with nx := Pv (i + 1), ct := Pv (i + 1), bk := D.nx } σ2 H2)
    (hd : ∀ σ H, Pv (min xs.length ys.length) σ H → D.nx σ H) :
    ∃ W : Nat → Nat → St → Hp → Prop, (∃ m, W 0 m σ H) ∧ ∀ i m σ H, W i m σ H →
      ((Itz K c d).stop i H ∧ D.nx σ H) ∨ ((Itz K c d).go i H ∧ ∃ N : St → Hp → Prop, (∀ σ' H', N σ' H' → ∃ m', m' < m ∧ W (i + 1) m' σ' H') ∧ ∀ y H', (Itz K c d).yld i H y H' → g y σ H' fun σ2 H2 => tb { D with nx := N, ct := N, bk := D.nx } σ2 H2) := by
  refine ⟨fun i m σ H => m = min xs.length ys.length - i ∧ i ≤ min xs.length ys.length ∧ Pv i σ H, ⟨min xs.length ys.length, by simp, Nat.zero_le _, h0⟩, ?_⟩
  rintro i m σ H ⟨rfl, hi, p⟩
  obtain ⟨zx, zy⟩ := hl i σ H hi p
  by_cases hlt : i < min xs.length ys.length
  · have h1 : i < xs.length := by omega
    have h2 : i < ys.length := by omega
    refine .inr ⟨⟨xs, ys, xs[i], ys[i], zx, zy, by simp [h1], by simp [h2]⟩, Pv (i + 1), fun σ' H' p' => ⟨min xs.length ys.length - (i + 1), by omega, rfl, hlt, p'⟩, fun v H' q => ?_⟩
    obtain ⟨a, x, y, rfl, ha, rfl, e⟩ := q
    obtain ⟨e1, e2⟩ := e xs ys zx zy
    exact hs i x y a σ H e1 e2 ha p
  · have e : i = min xs.length ys.length := by omega
    subst e
    refine .inl ⟨⟨xs, ys, zx, zy, ?_⟩, hd σ H p⟩
    rcases Nat.le_total xs.length ys.length with q | q
    · exact .inl (by rw [Nat.min_eq_left q]; exact Nat.le_refl _)
    · exact .inr (by rw [Nat.min_eq_right q]; exact Nat.le_refl _)
end
end L2

namespace L2
open PySem PySem.Spec PyProof.Rows
/-! ### enumerate -/
def Cp.adr : Cp → List Addr
  | .lst a => [a]
  | .tup a => [a]
  | .txt _ => []
theorem Cp.off_adr {c : Cp} {b : Addr} (h : c.off b) : b ∉ c.adr := by
  cases c with
  | lst a =>
    intro z
    have q : b = a := by simpa [Cp.adr] using z
    exact h q.symm
  | tup a =>
    intro z
    have q : b = a := by simpa [Cp.adr] using z
    exact h q.symm
  | txt x => intro z; cases z
theorem Cp.src_adr {c : Cp} {xs : List V} {h h' : Heap} (hs : c.src h xs) (k : ∀ b ∈ c.adr, ∀ o, h.get? b = some o → h'.get? b = some o) : c.src h' xs := by
  cases c with
  | lst a => obtain ⟨its, r, o, ho, q⟩ := hs; exact ⟨its, r, o, k a (by simp [Cp.adr]) _ ho, q⟩
  | tup a => obtain ⟨its, r, o, ho, q⟩ := hs; exact ⟨its, r, o, k a (by simp [Cp.adr]) _ ho, q⟩
  | txt x => exact hs
theorem Cp.draws {prog : Program} {w : World} {A : Around} {c : Cp} {xs : List V} (hh : A.handled = none) (it : Addr) :
    Draws prog w A it (it :: c.adr) xs.length (fun i v => ∃ x, xs[i]? = some x ∧ RelV x v) (fun i h => c.itr h it i ∧ c.src h xs) where
  live := fun i h st => by
    obtain ⟨o, _, _, ho, _⟩ := Cp.itr_obj st.1
    exact ⟨o, ho⟩
  frame := fun i h h' st k => ⟨Cp.itr_at st.1 fun o e => k it (by simp) o e, Cp.src_adr st.2 fun b hb o e => k b (List.mem_cons_of_mem _ hb) o e⟩
  item := fun i s Q E hi st hQ => by
    obtain ⟨o, T, _, ho, hc, _, n1, n2⟩ := Cp.itr_obj st.1
    have off : c.off it := Cp.off_of st.2 ho hc n1 n2
    refine Cp.item st.1 st.2 (x := xs[i]) (by simp [hi]) fun u h' tk ru q sb => ?_
    exact hQ u h' tk ⟨_, by simp [hi], ru⟩ ⟨q, Cp.src_ext st.2 sb.extBut off⟩ sb
  done := fun s Q E st hE => Cp.fin hh st.1 st.2 (by simp) hE
def Ite (K : PySem.W.Frag) (c : Cp) : It :=
  ⟨fun i H => ∃ xs x, c.at K H xs ∧ xs[i]? = some x,
   fun i H v H' => ∃ p x, v = .ref p ∧ H p = none ∧ H' = upd H p (.tup [.int (i : Int), x]) ∧ ∀ xs, c.at K H xs → xs[i]? = some x,
   fun i H => ∃ xs, c.at K H xs ∧ xs.length ≤ i⟩
theorem turn_enum {P : Program} {w : World} {K : PySem.W.Frag} {elts : List Expr} {k : Nat} {pos : Pos} {c : Cp} {e it : Addr} (hei : e ≠ it) :
    Turn P w K (.Tuple elts k pos) (Ite K c) [e, it] e (fun i h => (∃ old, IsEnum h e it i old) ∧ c.itr h it i) where
  mem := by simp
  obj := fun i h Z b hb => by
    obtain ⟨⟨old, he⟩, hi⟩ := Z
    obtain ⟨o, _, vs, ho, _, d, _⟩ := Cp.itr_obj hi
    simp only [List.mem_cons, List.not_mem_nil, or_false] at hb
    rcases hb with rfl | rfl
    · exact ⟨_, he, fun v q => by cases q⟩
    · exact ⟨_, ho, fun v q => by rw [d] at q; cases q⟩
  keep := fun i h h' Z kp => by
    obtain ⟨⟨old, he⟩, hi⟩ := Z
    exact ⟨⟨old, kp e (by simp) _ he⟩, Cp.itr_at hi fun o q => kp it (by simp) o q⟩
  item := by
    intro X hP hw hK hc i pins s σ H E I hf Z hg
    subst hP hw hK
    obtain ⟨xs, x, hx, ex⟩ := hg
    obtain ⟨⟨old, he⟩, hi⟩ := id Z
    have sc := Cp.src_of I hx
    have offe : c.off e := Cp.off_of sc he rfl (by decide) (by decide)
    have hlt : i < xs.length := (List.getElem?_eq_some_iff.mp ex).1
    have hh : X.A.in1.handled = none := I.ok.hd hc
    refine TK.wpAny_up (Nat.le_refl s.toks) (wpAny_pyNext_enum_itemD (Cp.draws (c := c) (xs := xs) hh it) he ⟨hi, sc⟩ hlt hei (fun z => ?_) fun u h' tk hP ho st' hT hsz kk hup => ⟨_, rfl, ?_⟩)
    · rcases List.mem_cons.mp z with q | q
      · exact hei q
      · exact Cp.off_adr offe q
    · obtain ⟨x', ex', ru⟩ := hP
      rw [ex] at ex'
      cases ex'
      refine wpAny_letOwnedTupleGo_enum ho fun h'' he'' sb => ?_
      have hne : s.heap.objs.size ≠ e := Nat.ne_of_gt (Heap.lt_size he)
      have k2 : ∀ b o, b ∉ [e, it] → s.heap.get? b = some o → h''.get? b = some o := fun b o hb q => by
        simp only [List.mem_cons, List.not_mem_nil, or_false, not_or] at hb
        exact sb.extBut _ _ hb.1 (kk b o hb.1 hb.2 q)
      have I1 : Inv X pins σ H { s with heap := h'', toks := tk + 1 } := I.moved k2 hf (by have z : s.toks ≤ tk + 1 := hup; exact z)
      have hn : H s.heap.objs.size = none := I.fresh
      have fok : FpOk X pins H s.heap.objs.size := I.fpOk (Nat.le_refl _) hn
      have hp2 : h''.get? s.heap.objs.size = some { cls := .type "tuple", data := .seq #[.int i tk, u] } := sb.extBut _ _ hne hT
      have I2 : Inv X pins σ (upd H s.heap.objs.size (.tup [.int (i : Int), x])) { s with heap := h'', toks := tk + 1 } :=
        I1.track fok ⟨by show 2 ≤ sizeLine; decide, [.int i tk, u], .cons ⟨_, rfl⟩ (.cons ru .nil), ⟨_, hp2, rfl, _, rfl⟩⟩
      refine ⟨.ref s.heap.objs.size, _, I2, rfl, ⟨_, x, rfl, hn, rfl, fun xs' hx' => ?_⟩, ⟨⟨_, he''⟩, Cp.itr_at st'.1 fun o q => sb.extBut _ _ (Ne.symm hei) q⟩, fun b hb => ?_⟩
      · rw [Cp.at_inj I hx' hx]; exact ex
      · obtain ⟨o, _, vs, hoi, _⟩ := Cp.itr_obj hi
        have lt : b < s.heap.objs.size := by
          have hb' := hb
          simp only [List.mem_cons, List.not_mem_nil, or_false] at hb'
          rcases hb' with rfl | rfl
          · exact Heap.lt_size he
          · exact Heap.lt_size hoi
        rw [upd_ne (Nat.ne_of_lt lt)]
        exact (hf b hb).1
  done := by
    intro X hP hw hK hc i pins s σ H E I hf Z hg
    subst hP hw hK
    obtain ⟨xs, hx, hle⟩ := hg
    obtain ⟨⟨old, he⟩, hi⟩ := Z
    have hh : X.A.in1.handled = none := I.ok.hd hc
    have hT : s.TypeIs (.ref e) "enumerate" := ⟨_, he, rfl⟩
    unfold pyNext
    refine wpAny_bind (wpAny_attempt (wpAny_callSpecial?_slot (name := Str.ofString "__next__") hT F.slot_enumerate_next
      (wpAny_call_entry F.slot_enumerate_next hT F.entry_enumerate_next ?_ (F.args_enumerate_next_1 _))))
    show wpAny _ _ (field (.ref e) 2 >>= _) _ _ _
    refine wpAny_bind (wpAny_field he rfl (x := .ref it) rfl ?_)
    refine wpAny_bind (Cp.fin hh hi (Cp.src_of I hx) (List.getElem?_eq_none hle) fun h' y eb hy => ?_)
    obtain ⟨o, ho, hcl⟩ := hy
    refine wpAny_bind (wpAny_isInstance (T := "StopIteration") (b := true) ⟨o, ho, hcl⟩ isSubtype_stop ?_)
    refine wpAny_pure ⟨rfl, I.moved (t' := s.toks) (ch := [e, it]) (fun b o hb q => eb b o ?_ q) hf⟩
    simp only [List.mem_cons, List.not_mem_nil, or_false, not_or] at hb
    exact hb.2
  self := fun _ _ _ _ _ Z h => by
    obtain ⟨⟨old, he⟩, _⟩ := Z
    exact wpAny_pyIter_enum he h
section
variable {prog : Program} {w : World} {A : Around} {E : Value → Shared → Prop} {s : Shared}
set_option maxHeartbeats 1000000 in
theorem meets_enum_tup (l : Addr) (items : Array Value) (n : Nat) (dct : Option Addr) (sl : Array (Option Value)) :
    Meets (Builtin.«enumerate.__new__» ⟨[.type "enumerate", .ref l], []⟩) (fun _ R s => s.heap.get? l = some { cls := .type "tuple", dict := dct, data := .seq items n, slots := sl } ∧
      R (.ok (.ret (.ref (s.heap.push { cls := .type "tuple_iterator", data := .fields #[.ref l, .int 0 0] }).objs.size)))
        { s with heap := (s.heap.push { cls := .type "tuple_iterator", data := .fields #[.ref l, .int 0 0] }).push { cls := .type "enumerate", data := .fields #[.none, .bool false, .ref s.heap.objs.size, rawInt 0, .none, .none] } }) :=
  .of_wp fun prog w A R s h => by
    obtain ⟨hp, g, d, tk, os⟩ := s; obtain ⟨hl, h⟩ := h
    have hsub := sub_enumerate
    have hL : Heap.IsTuple (Shared.heap ⟨hp, g, d, tk, os⟩) l items := ⟨_, hl, rfl, n, rfl⟩
    wp_walk using AutoSeq1.wpAny_loadPart' hl
    refine wpAny_stack_any fun st => wpAny_pure ?_
    split
    · rename_i c _ _ _ _ _
      cases (c == Value.type "enumerate")
      · wp_walk using AutoSeq1.wpAny_loadPart' hl, wpAny_pyIter_tuple hL
        exact ⟨_, rfl, h⟩
      · wp_walk using AutoSeq1.wpAny_loadPart' hl, wpAny_pyIter_tuple hL
        exact ⟨_, rfl, h⟩
    · wp_walk using AutoSeq1.wpAny_loadPart' hl, wpAny_pyIter_tuple hL
      exact ⟨_, rfl, h⟩
theorem call_enum_tup {l : Addr} {items : Array Value} {Q : Value → Shared → Prop} (hL : s.heap.IsTuple l items)
    (h : ∀ h', IsEnum h' (s.heap.objs.size + 1) s.heap.objs.size 0 .none → h'.IsTupleIter s.heap.objs.size l 0 →
      (∀ b o, s.heap.get? b = some o → h'.get? b = some o) → Q (.ref (s.heap.objs.size + 1)) { s with heap := h' }) :
    wpAny (model prog w) A (call (.type "enumerate") [.ref l]) Q E s := by
  obtain ⟨⟨c, dct, dt, sl⟩, hl, hc, n, hd⟩ := hL
  replace hc : c = .type "tuple" := hc
  replace hd : dt = .seq items n := hd
  subst hc hd
  refine callType_new F.called_enumerate (by decide) (F.typeCall_enumerate_1 _) (F.newCall_enumerate_1 _) (fun obj => F.args_object_init_2 obj _) F.entry_enumerate_new
    (meets_enum_tup l items n dct sl) ⟨hl, ?_⟩
  have hz : (s.heap.push { cls := .type "tuple_iterator", data := .fields #[.ref l, .int 0 0] }).objs.size = s.heap.objs.size + 1 := Heap.size_push ..
  show _ ∧ _
  rw [hz]
  have he : IsEnum ((s.heap.push { cls := .type "tuple_iterator", data := .fields #[.ref l, .int 0 0] }).push
      { cls := .type "enumerate", data := .fields #[.none, .bool false, .ref s.heap.objs.size, rawInt 0, .none, .none] }) (s.heap.objs.size + 1) s.heap.objs.size 0 .none := by
    have := Heap.get?_push_size (s.heap.push { cls := .type "tuple_iterator", data := .fields #[.ref l, .int 0 0] })
      (o := { cls := .type "enumerate", data := .fields #[.none, .bool false, .ref s.heap.objs.size, rawInt 0, .none, .none] }) rfl
    rw [hz] at this; exact this
  exact ⟨⟨_, he, rfl⟩, h _ he ⟨_, Heap.get?_push_of_some _ (Heap.get?_push_size _ rfl), rfl, rfl⟩ fun b o x => Heap.get?_push_of_some _ (Heap.get?_push_of_some _ x)⟩
theorem call_enumC {c : Cp} {xs : List V} {t : Tok} {Q : Value → Shared → Prop} (sc : c.src s.heap xs)
    (h : ∀ h', IsEnum h' (s.heap.objs.size + 1) s.heap.objs.size 0 .none → c.itr h' s.heap.objs.size 0 → (∀ b o, s.heap.get? b = some o → h'.get? b = some o) → Q (.ref (s.heap.objs.size + 1)) { s with heap := h' }) :
    wpAny (model prog w) A (call (.type "enumerate") [c.value t]) Q E s := by
  cases c with
  | lst a => obtain ⟨its, _, p⟩ := sc; exact call_enumerate_list p fun h' a b _ k => h h' a b k
  | tup a => obtain ⟨its, _, p⟩ := sc; exact call_enum_tup p fun h' a b k => h h' a b k
  | txt x => exact call_enumerate_str fun h' a b _ k => h h' a ⟨t, b⟩ k
end
section
variable {X : Cx}
def iEnum (K : PySem.W.Frag) (ta : TA) : TI := fun σ H R => ta σ H fun vs H1 => ∃ c xs, vs = [c.val] ∧ c.at K H1 xs ∧ R (Ite K c) H1
theorem pi_enum {a : Expr} {ta : TA} {p pos : Pos} {elts : List Expr} {k : Nat} {tpos : Pos} (hg : Gl X "enumerate") (hm : X.mg "enumerate" = none) (ha : PA X [a] ta)
    (hs : starEach [a] X.env = [(false, eval a X.env)] := by rfl) : PI X (.Tuple elts k tpos) (.Call (.Name "enumerate" p) [a] [] pos) (iEnum X.K ta) := by
  intro pins s σ H R I h
  refine Call_ (ld_blt I hg hm boot_enumerate (PyProof.Rows.callWith_type1 (thn (ha pos pins s σ H _ I h) fun us s1 ⟨vs, H1, I1, r1, q1⟩ => ?_) hs rfl))
  obtain ⟨c, xs, e, hx, q⟩ := q1
  subst e
  obtain ⟨u, rfl, ru⟩ := vals1 r1
  obtain ⟨t, rfl⟩ := Cp.value_of ru
  have sc := Cp.src_of I1 hx
  refine call_enumC sc fun h' he hi kk => wpAny_pyIter_enum he ?_
  have hei : s1.heap.objs.size + 1 ≠ s1.heap.objs.size := Nat.ne_of_gt (Nat.lt_succ_self _)
  refine ⟨_, [s1.heap.objs.size + 1, s1.heap.objs.size], _, _, H1, rfl, I1.kept (t' := s1.toks) kk, turn_enum hei, ⟨⟨_, he⟩, hi⟩, fun b hb => ?_, q⟩
  have le : s1.heap.objs.size ≤ b := by
    simp only [List.mem_cons, List.not_mem_nil, or_false] at hb
    rcases hb with rfl | rfl
    · exact Nat.le_add_right _ _
    · exact Nat.le_refl _
  exact I1.fpOk le (I1.hok.fresh le)
theorem for_enum {K : PySem.W.Frag} {c : Cp} {xs : List V} {g : TG} {tb : TS} {D : Ends} {σ : St} {H : Hp} (Pv : Nat → St → Hp → Prop) (h0 : Pv 0 σ H) (hl : ∀ i σ H, i ≤ xs.length → Pv i σ H → c.at K H xs)
    (hs : ∀ (i : Nat) x p σ H, xs[i]? = some x → H p = none → Pv i σ H → g (.ref p) σ (upd H p (.tup [.int (i : Int), x])) fun σ2 H2 => tb { D with nx := Pv (i + 1), ct := Pv (i + 1), bk := D.nx } σ2 H2)
    (hd : ∀ σ H, Pv xs.length σ H → D.nx σ H) :
    ∃ W : Nat → Nat → St → Hp → Prop, (∃ m, W 0 m σ H) ∧ ∀ i m σ H, W i m σ H →
      ((Ite K c).stop i H ∧ D.nx σ H) ∨ ((Ite K c).go i H ∧ ∃ N : St → Hp → Prop, (∀ σ' H', N σ' H' → ∃ m', m' < m ∧ W (i + 1) m' σ' H') ∧ ∀ y H', (Ite K c).yld i H y H' → g y σ H' fun σ2 H2 => tb { D with nx := N, ct := N, bk := D.nx } σ2 H2) := by
  refine ⟨fun i m σ H => m = xs.length - i ∧ i ≤ xs.length ∧ Pv i σ H, ⟨xs.length, by simp, Nat.zero_le _, h0⟩, ?_⟩
  rintro i m σ H ⟨rfl, hi, p⟩
  have zx := hl i σ H hi p
  by_cases hlt : i < xs.length
  · refine .inr ⟨⟨xs, xs[i], zx, by simp [hlt]⟩, Pv (i + 1), fun σ' H' p' => ⟨xs.length - (i + 1), by omega, rfl, hlt, p'⟩, fun v H' q => ?_⟩
    obtain ⟨a, x, rfl, ha, rfl, e⟩ := q
    exact hs i x a σ H (e xs zx) ha p
  · have e : i = xs.length := by omega
    subst e
    exact .inl ⟨⟨xs, zx, Nat.le_refl _⟩, hd σ H p⟩
end
end L2

namespace L2
open PySem PySem.Spec PyProof.Rows
set_option maxRecDepth 100000
/-! ### set(text), its length -/
def met (val : Nat → Str) (i : Nat) : List Str := ((List.range i).map val).foldl step_dedup []
theorem met_zero (val : Nat → Str) : met val 0 = [] := rfl
theorem met_succ (val : Nat → Str) (i : Nat) : met val (i + 1) = step_dedup (met val i) (val i) := by
  unfold met; rw [List.range_succ, List.map_append, List.foldl_append]; rfl
theorem met_length_le (val : Nat → Str) : ∀ i, (met val i).length ≤ i
  | 0 => by rw [met_zero]; exact Nat.le_refl _
  | i + 1 => by
    rw [met_succ]
    have ih := met_length_le val i
    unfold step_dedup
    split
    · omega
    · rw [List.length_append, List.length_singleton]; omega
theorem met_any_step (σ : List Str) (v k : Str) : (step_dedup σ v).any (· == k) = (σ.any (· == k) || decide (k = v)) := by
  unfold step_dedup
  by_cases h : σ.any (· == v) = true
  · rw [if_pos h]
    by_cases e : k = v
    · subst e; rw [h]; simp
    · simp [e]
  · rw [if_neg h, List.any_append]
    by_cases e : k = v
    · subst e; simp
    · have hb : (v == k) = false := by simpa [beq_iff_eq] using (fun h' : v = k => e h'.symm)
      simp [hb, e]
theorem met_length_step (σ : List Str) (v : Str) : (step_dedup σ v).length = if σ.any (· == v) then σ.length else σ.length + 1 := by
  unfold step_dedup; split <;> simp
section
variable {prog : Program} {w : World} {A : Around} {R : Result → Shared → Prop} {I : Addr} {fp wr : List Addr} {G : Array GenState → Array GenState → Prop} {n : Nat} {P : Nat → Value → Prop} {St : Nat → Shared → Prop}
theorem set_loop_txt (W : WalksS prog w A.in1 I fp wr G n P St) (S : Addr) (hSf : S ∉ fp) (val : Nat → Str) (hval : ∀ i v, P i v → ∃ t, v = .str (val i) t) (hb : n + 1 < scanBound) :
    ∀ (k i : Nat) (s : Shared), n - i = k → i ≤ n → St i s → s.heap.SetOf (strKind prog w) S (fun k' => (met val i).any (· == k')) (met val i).length →
      (∀ s', Moved (S :: wr) G s s' → s'.heap.SetOf (strKind prog w) S (fun k' => (met val n).any (· == k')) (met val n).length → R (.ok (.ret .none)) s') →
      codeAny (model prog w) A (.builtin "set.update.loop" ⟨[.ref S, .ref I], []⟩) R s := by
  have hSw : S ∉ wr := fun h => hSf (W.sub _ h)
  have hsub : ∀ b ∈ wr, b ∈ S :: wr := fun b hb => List.mem_cons_of_mem _ hb
  intro k
  induction k with
  | zero =>
    intro i s hk hi hst hS hR
    have hin : i = n := by omega
    subst hin
    refine codeAny_builtin PyProof.Rows.F.entry_set_update_loop ?_
    rw [Around.under_plainId PyProof.Rows.F.plain_set_update_loop _]
    show wpAny _ A.in1 (pyNext (.ref I) >>= _) _ _ s
    refine wpAny_bind (W.done s _ _ hst fun s' hm => ?_)
    show wpAny _ A.in1 (ret Value.none) _ _ s'
    exact wpAny_pure (hR s' (hm.mono hsub) (by
      obtain ⟨o, es, ep, t, ho, rest⟩ := hS
      exact ⟨o, es, ep, t, hm.heap S _ hSw ho, rest⟩))
  | succ k ih =>
    intro i s hk hi hst hS hR
    have hlt : i < n := by omega
    refine codeAny_builtin PyProof.Rows.F.entry_set_update_loop ?_
    rw [Around.under_plainId PyProof.Rows.F.plain_set_update_loop _]
    show wpAny _ A.in1 (pyNext (.ref I) >>= _) _ _ s
    refine wpAny_bind (W.item i s _ _ hlt hst fun v s' hP hst' hm => ?_)
    obtain ⟨t, rfl⟩ := hval i v hP
    have hS' : s'.heap.SetOf (strKind prog w) S (fun k' => (met val i).any (· == k')) (met val i).length := by
      obtain ⟨o, es, ep, tb, ho, rest⟩ := hS
      exact ⟨o, es, ep, tb, hm.heap S _ hSw ho, rest⟩
    show wpAny _ A.in1 (holding [Value.str (val i) t] (setAdd S (.str (val i) t)) >>= _) _ _ s'
    refine wpAny_bind (wpAny_holding ?_)
    unfold setAdd
    refine wpAny_holding ?_
    refine wpAny_bind ((strKind prog w).pyHash (k := val i) (strKind_is _ _ _ _) ?_)
    have hroom : (met val i).length + 1 < scanBound := by have := met_length_le val i; omega
    refine wpAny_setAddHashed_of (knd := strKind prog w) (s := { s' with toks := s'.toks + 1 }) (strKind_is _ _ _ _) rfl hS' hroom fun h' hsb hS2 => ?_
    have hSi : h'.SetOf (strKind prog w) S (fun k' => (met val (i + 1)).any (· == k')) (met val (i + 1)).length :=
      SetOf_congr hS2 (fun k' => by rw [met_succ, met_any_step]) (by rw [met_succ, met_length_step])
    refine wpAny_pure ⟨plainId_quiet PyProof.Rows.F.plain_set_update_loop _, ih (i + 1) _ (by omega) hlt (W.frame _ s' _ _ hst' (Nat.le_succ _) fun b hb o e => ?_) hSi fun s'' hm'' hS'' => ?_⟩
    · rw [hsb.2 b (fun h : b = S => hSf (by rw [← h]; exact hb))]; exact e
    · refine hR s'' (Moved.trans W.gtrans ((hm.mono hsub).then_heap (Nat.le_succ _) fun b o hb e => ?_) hm'') hS''
      rw [hsb.2 b (fun h : b = S => hb (by rw [h]; exact List.mem_cons_self))]; exact e
end
def signAtS (x : Str) (i : Nat) : Str := ⟨#[x.cps.getD i 0]⟩
theorem walks_txt {prog : Program} {w : World} {A : Around} (hh : A.handled = none) (I : Addr) (x : Str) (t : Tok) :
    Walks prog w A I [I] [I] x.cps.size (fun i v => ∃ u, v = .str (signAtS x i) u) (fun i h => h.IsStrIter I (strIterType x) x t i) where
  sub := fun _ hb => hb
  frame := fun _ _ _ st hk => let ⟨o, ho, r⟩ := st; ⟨o, hk I (by simp) o ho, r⟩
  item := fun i s Q E hi st hQ => by
    refine pyNext_txt_item st (k := x.cps.getD i 0) (by simp [hi]) fun h' hit' hs' => ?_
    exact hQ _ h' (s.toks + 1) ⟨_, rfl⟩ hit' fun b o hb e => hs'.extBut b o (fun h => hb (by simp [h])) e
  done := fun s Q E st hQ => pyNext_txt_end hh st (by simp) fun h' he' => hQ h' s.toks fun b o hb e => he' b o (fun h => hb (by simp [h])) e
  self := fun _ _ _ _ st hQ => pyIter_txtiter st hQ
theorem sub_str_setG : isSubtype (.type "str") (.type "set") = pure false := by rw [isSubtype_type]; kernel_rfl
theorem sub_str_frozensetG : isSubtype (.type "str") (.type "frozenset") = pure false := by rw [isSubtype_type]; kernel_rfl
section
variable {prog : Program} {w : World} {A : Around} {E : Value → Shared → Prop} {s : Shared}
set_option maxHeartbeats 3200000 in
theorem call_set_txt {x : Str} {t : Tok} {Q : Value → Shared → Prop} (hh : A.handled = none) (hb : x.cps.size + 1 < scanBound)
    (h : ∀ (h' : Heap) (tk : Nat), h'.SetOf (strKind prog w) s.heap.objs.size (fun k' => (met (signAtS x) x.cps.size).any (· == k')) (met (signAtS x) x.cps.size).length →
      (∀ b o, b < s.heap.objs.size → s.heap.get? b = some o → h'.get? b = some o) → Q (.ref s.heap.objs.size) { s with heap := h', toks := tk }) :
    wpAny (model prog w) A (call (.type "set") [.str x t]) Q E s := by
  obtain ⟨c, tl, hmro⟩ := F.called_set.mro
  have hmade := F.called_set.made
  have hsub := F.called_set.sub
  refine wpAny_call (codeAny_of_tree ?_)
  show wpAny _ _ (callAny (.type "set") _) _ _ _
  refine wpAny_pure ⟨Code.quiet_builtin _ (by decide +kernel), codeAny_builtin F.entry_type_call ?_⟩
  rw [Around.under_plain (weight_type_call_type "set" [.str x t] []) rfl]
  have h1 := F.called_set.notType
  have h2 := F.called_set.canCreate
  have hct := F.typeCall_set_1 (.str x t)
  repeat (any_goals (first | assumption | wp_step))
  refine codeAny_mono (code_set_new_1 (.str x t) (E := E) (Q₁ := fun obj s₁ => ∃ led : Bool, obj = .ref s.heap.objs.size ∧ s₁ = { s with heap := s.heap.push { cls := .type "set", dict := none, data := .set #[] 0 (.fresh 0 0 led) } }) fun led => ⟨led, rfl, rfl⟩) fun r s₁ hr => ?_
  cases r with
  | error e => exact hr
  | ok fl =>
    cases fl with
    | ret obj =>
      obtain ⟨led, rfl, rfl⟩ := hr
      have hS : (s.heap.push { cls := .type "set", dict := none, data := .set #[] 0 (.fresh 0 0 led) }).get? s.heap.objs.size = some { cls := .type "set", dict := none, data := .set #[] 0 (.fresh 0 0 led) } := Heap.get?_push_size _ rfl
      have hT : Shared.TypeIs { s with heap := s.heap.push { cls := .type "set", dict := none, data := .set #[] 0 (.fresh 0 0 led) } } (.ref s.heap.objs.size) "set" := ⟨_, hS, rfl⟩
      have hli := F.called_set.init.lookup
      have hbi := F.called_set.init.bind (.ref s.heap.objs.size)
      repeat (any_goals (first | assumption | wp_step))
      refine codeAny_mono (codeAny_call_builtin (R := wants (fun r s₂ => r = .none ∧ ∃ h' tk, s₂ = { s with heap := h', toks := tk } ∧
          h'.SetOf (strKind prog w) s.heap.objs.size (fun k' => (met (signAtS x) x.cps.size).any (· == k')) (met (signAtS x) x.cps.size).length ∧
          (∀ b o, b < s.heap.objs.size → s.heap.get? b = some o → h'.get? b = some o)) E) F.called_set.init.plain F.entry_set_init (check_set_init_1 hT ?_)) fun r₂ s₂ hr₂ => ?_
      · have hsls := sub_str_setG
        have hslf := sub_str_frozensetG
        have hne : (Value.type "str" == Value.type "dict") = false := by decide
        unfold Builtin.«set.__init__» noKeywords Builtin.Frozenset.updateFrom
        generalize hPI : pyIter = PI
        wp_walk
        subst hPI
        refine wpAny_pyIter_strU ?_
        refine wpAny_bind (wpAny_runValue ?_)
        have hh3 : A.in1.in1.in1.handled = none := by simp [hh]
        have hSf : s.heap.objs.size ∉ [(s.heap.push { cls := .type "set", dict := none, data := .set #[] 0 (.fresh 0 0 led) }).objs.size] := by
          rw [Heap.size_push]; simp only [List.mem_singleton]
          exact Nat.ne_of_lt (Nat.lt_succ_self _)
        refine set_loop_txt ((walks_txt hh3 _ x t).toS) s.heap.objs.size hSf (signAtS x) (fun i v hv => hv) hb (x.cps.size - 0) 0 _ (by omega) (Nat.zero_le _)
          ⟨_, Heap.get?_push_size _ rfl, rfl, rfl⟩ ?hS0 ?hR
        case hS0 =>
          have hget : ((s.heap.push { cls := .type "set", dict := none, data := .set #[] 0 (.fresh 0 0 led) }).push { cls := .type (strIterType x), data := .fields #[.str x t, .int 0 0] }).get? s.heap.objs.size
              = some { cls := .type "set", dict := none, data := .set #[] 0 (.fresh 0 0 led) } := Heap.get?_push_of_some _ hS
          exact SetOf_congr ((setObjOf_fresh (knd := strKind prog w) led).setOf hget (by unfold scanBound; omega)) (fun _ => rfl) rfl
        case hR =>
          intro s' hm hS'
          obtain ⟨h', g', d', tk', os'⟩ := s'
          have eg : g' = s.gens := hm.gens
          have ed : d' = s.drawn := hm.drawn
          have eo : os' = s.os := hm.os
          subst eg; subst ed; subst eo
          show wpAny _ _ _ _ _ _
          refine wpAny_pure ?_
          show wpAny _ _ (ret Value.none) _ _ _
          refine wpAny_pure ⟨rfl, h', tk', rfl, hS', fun b o hb e => ?_⟩
          have hb1 : b ≠ s.heap.objs.size := Nat.ne_of_lt hb
          have hb2 : b ≠ (s.heap.push { cls := .type "set", dict := none, data := .set #[] 0 (.fresh 0 0 led) }).objs.size := by
            rw [Heap.size_push]; exact Nat.ne_of_lt (Nat.lt_succ_of_lt hb)
          exact hm.heap b o (by simp only [List.mem_cons, List.mem_singleton, List.not_mem_nil, or_false, not_or]; exact ⟨hb1, hb2⟩) (Heap.get?_push_of_some _ (Heap.get?_push_of_some _ e))
      · cases r₂ with
        | error e => exact hr₂
        | ok fl₂ =>
          cases fl₂ with
          | ret r =>
            obtain ⟨rfl, h', tk, rfl, hS', hk'⟩ := hr₂
            repeat (any_goals (first | assumption | wp_step))
            exact h _ _ hS' hk'
          | _ => exact hr₂.elim
    | _ => exact hr.elim
end
end L2

namespace L2
open PySem PySem.Spec PyProof.Rows
/-! ### a set of texts that is only counted -/
def setO (P : Program) (w : World) (a : Addr) (n : Nat) : HO := .ext fun h => ∃ S, h.SetOf (strKind P w) a S n
section
variable {X : Cx}
theorem call_setT (hc : X.calm = true) : CallR X (.type "set") (fun xs H Q => ∃ x, xs = [.str x] ∧ x.cps.size + 1 < scanBound ∧ ∀ p, H p = none → Q (.ref p) (upd H p (setO X.prog X.w p (met (signAtS x) x.cps.size).length))) := by
  intro pins s σ H xs us Q I r h
  obtain ⟨x, rfl, hb, q⟩ := h
  obtain ⟨u, rfl, t, rfl⟩ := vals1 r
  refine TK.wpAny_up (Nat.le_refl s.toks) (call_set_txt (I.ok.hd hc) hb fun h' tk hS kk hup => ?_)
  have hn : H s.heap.objs.size = none := I.fresh
  have k : ∀ b o, s.heap.get? b = some o → h'.get? b = some o := fun b o e => kk b o (Heap.lt_size e) e
  refine ⟨.ref s.heap.objs.size, _, I.laid (t' := tk) k (Nat.le_refl _) ?_, rfl, q _ hn⟩
  refine ⟨⟨_, hS⟩, ?_, fun h1 h2 p e => ?_⟩
  · obtain ⟨o, _, _, _, ho, _⟩ := hS
    exact ⟨o, ho⟩
  · obtain ⟨S, o, es, ep, t, ho, rest⟩ := p
    exact ⟨S, o, es, ep, t, e o ho, rest⟩
theorem call_len_setT : CallR X (.builtin "len") (fun xs H Q => ∃ p n, xs = [.ref p] ∧ H p = some (setO X.prog X.w p n) ∧ Q (.int (n : Nat)) H) := by
  intro pins s σ H xs us Q I r h
  obtain ⟨p, n, rfl, hp, q⟩ := h
  obtain ⟨u, rfl, ru⟩ := vals1 r
  cases ru
  obtain ⟨⟨S, o, es, ep, t, ho, hex, hd, _, _, hz, hf, hn⟩, _⟩ := I.hok p _ hp
  subst hn
  have : es.size < 4096 := hz
  exact call_len_set ho hex hd hf (by omega) ⟨.int es.size, H, I.tok _, ⟨_, rfl⟩, q⟩
/-! ### great ints -/
def Bg (i : Int) : Prop := i.natAbs < 2 ^ 9000
theorem Bg.log {i : Int} (h : Bg i) : i.natAbs.log2 < 9000 := by
  rcases Nat.eq_zero_or_pos i.natAbs with h0 | hp
  · rw [h0]; decide
  · exact (Nat.log2_lt (by omega)).mpr h
theorem Bg.bits {i : Int} (h : Bg i) : Builtin.Int.intBits i ≤ 2 ^ 20 := by
  have := h.log
  unfold Builtin.Int.intBits
  split
  · exact Nat.zero_le _
  · exact Nat.le_trans (show i.natAbs.log2 + 1 ≤ 9000 by omega) (by decide)
theorem op_mulB : OpR X (binaryOp .Mult) (rI (fun i j => Bg i ∧ Bg j) fun i j => .int (i * j)) := opI fun _ _ _ _ _ _ _ hc q => mul_int q (IntMulOk.of_bits hc.1.bits hc.2.bits)
/-! ### two tuples of flat items -/
def tupEq (xs ys : List V) : Bool := (List.range (min xs.length ys.length)).all (fun j => eqV (xs.getD j .non) (ys.getD j .non)) && xs.length == ys.length
theorem flat_at {A : Around} {s : Shared} {xs ys : List V} {us vs : List Value} (rx : Vals xs us) (ry : Vals ys vs) (fx : xs.all flatV = true) (fy : ys.all flatV = true) :
    ∀ j (h1 : j < us.toArray.size) (h2 : j < vs.toArray.size), SeqAt.EqAt A s us.toArray[j] vs.toArray[j] (eqV (xs.getD j .non) (ys.getD j .non)) := by
  intro j h1 h2
  have l1 := rx.length
  have l2 := ry.length
  have h1' : j < xs.length := by rw [l1]; simpa using h1
  have h2' : j < ys.length := by rw [l2]; simpa using h2
  obtain ⟨u, eu, ru⟩ := rx.get (i := j) (x := xs[j]) (by simp [h1'])
  obtain ⟨v, ev, rv⟩ := ry.get (i := j) (x := ys[j]) (by simp [h2'])
  have e1 : us.toArray[j] = u := by
    rw [List.getElem?_eq_getElem (by simpa using h1)] at eu
    simpa using Option.some.inj eu
  have e2 : vs.toArray[j] = v := by
    rw [List.getElem?_eq_getElem (by simpa using h2)] at ev
    simpa using Option.some.inj ev
  rw [e1, e2, List.getD_eq_getElem?_getD, List.getD_eq_getElem?_getD, List.getElem?_eq_getElem h1', List.getElem?_eq_getElem h2', Option.getD_some, Option.getD_some]
  exact eqAt_V ru rv (List.all_eq_true.mp fx _ (List.getElem_mem h1')) (List.all_eq_true.mp fy _ (List.getElem_mem h2'))
def rEqT (K : PySem.W.Frag) (neg : Bool) : R2 := fun x y H Q => ∃ p q xs ys, x = .ref p ∧ y = .ref q ∧ SqT K H p xs ∧ SqT K H q ys ∧ xs.all flatV = true ∧ ys.all flatV = true ∧ Q (.bl (if neg then !tupEq xs ys else tupEq xs ys)) H
theorem op_eqT (hu : X.A.units < cLine) : OpR X (compareOp .Eq) (rEqT X.K false) := by
  intro pins s σ H x y v u Q I rx ry h
  obtain ⟨p, q, xs, ys, rfl, rfl, hp, hq, fx, fy, k⟩ := h
  cases rx
  cases ry
  obtain ⟨us, r1, t1, _⟩ := I.tuple hp
  obtain ⟨vs, r2, t2, _⟩ := I.tuple hq
  refine SeqAt.RcAt.tuples (A := X.A) (s := s) t1 t2 hu (flat_at r1 r2 fx fy) X.prog X.w X.xe _ ⟨.bl (tupEq xs ys), H, I, ?_, k⟩
  unfold tupEq
  rw [r1.length, r2.length, List.size_toArray, List.size_toArray]
  rfl
theorem op_neT (hu : X.A.units < cLine) : OpR X (compareOp .NotEq) (rEqT X.K true) := by
  intro pins s σ H x y v u Q I rx ry h
  obtain ⟨p, q, xs, ys, rfl, rfl, hp, hq, fx, fy, k⟩ := h
  cases rx
  cases ry
  obtain ⟨us, r1, t1, _⟩ := I.tuple hp
  obtain ⟨vs, r2, t2, _⟩ := I.tuple hq
  refine SeqAt.RcNeAt.tuples (A := X.A) (s := s) t1 t2 hu (flat_at r1 r2 fx fy) X.prog X.w X.xe _ ⟨.bl (!tupEq xs ys), H, I, ?_, k⟩
  unfold tupEq
  rw [r1.length, r2.length, List.size_toArray, List.size_toArray]
  rfl
end
end L2

namespace L2
open PySem PySem.Spec PyProof.Rows
/-! ### a loop over a list, a tuple or a text, whichever it is -/
def Itc (K : PySem.W.Frag) (c : Cp) : It :=
  ⟨fun i H => ∃ xs x, c.at K H xs ∧ xs[i]? = some x, fun i H x H' => H' = H ∧ ∀ xs, c.at K H xs → xs[i]? = some x, fun i H => ∃ xs, c.at K H xs ∧ xs.length ≤ i⟩
theorem Turn.conv {P : Program} {w : World} {K : PySem.W.Frag} {tg : Expr} {J J' : It} {fp : List Addr} {it : Addr} {tn : Nat → Heap → Prop} (T : Turn P w K tg J fp it tn)
    (hg : ∀ i H, J'.go i H → J.go i H) (hy : ∀ i H x H', J.yld i H x H' → J'.yld i H x H') (hs : ∀ i H, J'.stop i H → J.stop i H) : Turn P w K tg J' fp it tn where
  mem := T.mem
  obj := T.obj
  keep := T.keep
  item := fun X hP hw hK hc i pins s σ H E I hf st g => wpAny_mono (T.item X hP hw hK hc i pins s σ H E I hf st (hg i H g)) (fun r s1 ⟨u, hr, h⟩ => ⟨u, hr, wpAny_mono h (fun _ s2 ⟨x, H', I', r', y, t', n'⟩ => ⟨x, H', I', r', hy i H x H' y, t', n'⟩) fun _ _ z => z⟩) fun _ _ z => z
  done := fun X hP hw hK hc i pins s σ H E I hf st g => T.done X hP hw hK hc i pins s σ H E I hf st (hs i H g)
  self := T.self
theorem signs_length (x : Str) : (signsV x).length = x.cps.size := by simp [signsV]
theorem signs_at {x : Str} {i k : Nat} (h : x.cps[i]? = some k) : (signsV x)[i]? = some (.str ⟨#[k]⟩) := by
  unfold signsV
  rw [List.getElem?_map]
  have e : x.cps.toList[i]? = some k := by simpa using h
  rw [e]
  rfl
section
variable {X : Cx} {tg : Expr}
def iCp (K : PySem.W.Frag) (tl : TE) : TI := fun σ H R => tl σ H fun v H1 => ∃ c xs, v = Cp.val c ∧ c.at K H1 xs ∧ R (Itc K c) H1
theorem pi_cp {l : Expr} {tl : TE} (hl : PE X l tl) : PI X tg l (iCp X.K tl) := by
  intro pins s σ H R I h
  refine thn (hl pins s σ H _ I h) fun v s1 ⟨y, H1, I1, r1, q1⟩ => ?_
  obtain ⟨c, xs, e, hq, q⟩ := q1
  subst e
  have fp1 : ∀ b ∈ [s1.heap.objs.size], FpOk X pins H1 b := fun b hb => by
    have e : b = s1.heap.objs.size := by simpa using hb
    subst e
    exact I1.fpOk (Nat.le_refl _) (I1.hok.fresh (Nat.le_refl _))
  cases c with
  | lst a =>
    cases (show v = Value.ref a from r1)
    obtain ⟨its, rv, p, hz⟩ := I1.list hq
    refine wpAny_pyIter_list p.isList ?_
    exact ⟨s1.heap.objs.size, [s1.heap.objs.size], _, _, H1, rfl, I1.kept (t' := s1.toks) fun b o e => Heap.get?_push_of_some _ e, turn_list a _, ⟨_, Heap.get?_push_size _ rfl, rfl, rfl⟩, fp1, q⟩
  | tup a =>
    cases (show v = Value.ref a from r1)
    obtain ⟨its, rv, p, hz⟩ := I1.tuple hq
    refine wpAny_pyIter_tuple (show s1.heap.IsTuple a its.toArray from p) ?_
    exact ⟨s1.heap.objs.size, [s1.heap.objs.size], _, _, H1, rfl, I1.kept (t' := s1.toks) fun b o e => Heap.get?_push_of_some _ e, turn_tuple a _, ⟨_, Heap.get?_push_size _ rfl, rfl, rfl⟩, fp1, q⟩
  | txt x =>
    obtain ⟨t, rfl⟩ := (show ∃ t, v = Value.str x t from r1)
    refine wpAny_pyIter_strU ?_
    refine ⟨s1.heap.objs.size, [s1.heap.objs.size], _, _, H1, rfl, I1.kept (t' := s1.toks) fun b o e => Heap.get?_push_of_some _ e, (turn_txt x t _).conv ?_ ?_ ?_, ⟨_, Heap.get?_push_size _ rfl, rfl, rfl⟩, fp1, q⟩
    · rintro i H ⟨xs, y, hx, e⟩
      rw [show xs = signsV x from hx] at e
      have := (List.getElem?_eq_some_iff.mp e).1
      rw [signs_length] at this
      exact this
    · rintro i H y H' ⟨rfl, k, e, rfl⟩
      refine ⟨rfl, fun xs hx => ?_⟩
      rw [show xs = signsV x from hx]
      exact signs_at e
    · rintro i H ⟨xs, hx, e⟩
      rw [show xs = signsV x from hx, signs_length] at e
      exact e
theorem for_cp {K : PySem.W.Frag} {c : Cp} {xs : List V} {g : TG} {tb : TS} {D : Ends} {σ : St} {H : Hp} (Pv : Nat → St → Hp → Prop) (h0 : Pv 0 σ H) (hl : ∀ i σ H, i ≤ xs.length → Pv i σ H → c.at K H xs)
    (hs : ∀ i x σ H, xs[i]? = some x → Pv i σ H → g x σ H fun σ2 H2 => tb { D with nx := Pv (i + 1), ct := Pv (i + 1), bk := D.nx } σ2 H2) (hd : ∀ σ H, Pv xs.length σ H → D.nx σ H) :
    ∃ W : Nat → Nat → St → Hp → Prop, (∃ m, W 0 m σ H) ∧ ∀ i m σ H, W i m σ H →
      ((Itc K c).stop i H ∧ D.nx σ H) ∨ ((Itc K c).go i H ∧ ∃ N : St → Hp → Prop, (∀ σ' H', N σ' H' → ∃ m', m' < m ∧ W (i + 1) m' σ' H') ∧ ∀ x H', (Itc K c).yld i H x H' → g x σ H' fun σ2 H2 => tb { D with nx := N, ct := N, bk := D.nx } σ2 H2) := by
  refine ⟨fun i m σ H => m = xs.length - i ∧ i ≤ xs.length ∧ Pv i σ H, ⟨xs.length, by simp, Nat.zero_le _, h0⟩, ?_⟩
  rintro i m σ H ⟨rfl, hi, p⟩
  have q := hl i σ H hi p
  by_cases hlt : i < xs.length
  · refine .inr ⟨⟨xs, xs[i], q, by simp [hlt]⟩, Pv (i + 1), fun σ' H' p' => ⟨xs.length - (i + 1), by omega, rfl, hlt, p'⟩, fun x H' y => ?_⟩
    obtain ⟨e, y⟩ := y
    subst e
    exact hs i x σ _ (y xs q) p
  · have e : i = xs.length := by omega
    subst e
    exact .inl ⟨⟨xs, q, Nat.le_refl _⟩, hd σ H p⟩
end
end L2

namespace GwM
def lo (a b : Int) : Int × Int := (a / (Int.gcd a b : Int), b / (Int.gcd a b : Int))
theorem gcd_pos (a : Int) {b : Int} (hb : 0 < b) : 0 < (Int.gcd a b : Int) := by
  have : 0 < Int.gcd a b := Int.gcd_pos_of_ne_zero_right a (by omega)
  omega
theorem gcd_le (a : Int) {b : Int} (hb : 0 < b) : (Int.gcd a b : Int) ≤ b := Int.le_of_dvd hb (Int.gcd_dvd_right ..)
theorem lo_pos (a : Int) {b : Int} (hb : 0 < b) : 0 < (lo a b).2 :=
  Int.ediv_pos_of_pos_of_dvd hb (Int.le_of_lt (gcd_pos a hb)) (Int.gcd_dvd_right ..)
theorem lo_le (a : Int) {b : Int} (hb : 0 < b) : (lo a b).2 ≤ b := by
  have h := gcd_pos a hb
  exact Int.ediv_le_self _ (Int.le_of_lt hb)
theorem lo_one (a : Int) {b : Int} (hb : 0 < b) : Int.gcd (lo a b).1 (lo a b).2 = 1 :=
  Int.gcd_ediv_gcd_ediv_gcd (Int.gcd_pos_of_ne_zero_right a (by omega))
theorem lo_fst (a b : Int) : (lo a b).1 * (Int.gcd a b : Int) = a := Int.ediv_mul_cancel (Int.gcd_dvd_left ..)
theorem lo_snd (a b : Int) : (lo a b).2 * (Int.gcd a b : Int) = b := Int.ediv_mul_cancel (Int.gcd_dvd_right ..)
theorem lo_cross (a b : Int) : (lo a b).1 * b = a * (lo a b).2 := by
  have h1 := lo_fst a b
  have h2 := lo_snd a b
  generalize (lo a b).1 = x at *
  generalize (lo a b).2 = y at *
  generalize (Int.gcd a b : Int) = g at *
  rw [← h1, ← h2, Int.mul_assoc, Int.mul_comm y g]
theorem gcd_turn (a b : Int) : Int.gcd b (a % b) = Int.gcd a b := by
  have e : a = a % b + b * (a / b) := (Int.emod_add_mul_ediv a b).symm
  have h : Int.gcd (a % b + b * (a / b)) b = Int.gcd (a % b) b := Int.gcd_add_mul_left_left ..
  rw [← e] at h
  rw [h, Int.gcd_comm]
theorem gcd_end (a : Int) : (if a < 0 then -a else a) = (Int.gcd a 0 : Int) := by
  rw [Int.gcd_zero_right]
  split <;> omega
end GwM

namespace GP
open PySem L2 GwM
/-! ### what prices look like in the heap -/
abbrev Fra := Int × Int
def loF (f : Fra) : Fra := lo f.1 f.2
theorem Same.upd {H : Hp} {q : Addr} {o : HO} (h : H q = none) : Same H (L2.upd H q o) := fun b u e => by rw [upd_ne (ne_of_none e h)]; exact e
theorem Same.at {H H2 : Hp} {t : Addr} {o : HO} (e : Same H H2) (h : H t = none) : Same H (L2.upd H2 t o) := fun b u q => by rw [upd_ne (ne_of_none q h)]; exact e b u q
theorem Same.tup {K : PySem.W.Frag} {H H' : Hp} {a : Addr} {xs : List V} (e : Same H H') (h : SqT K H a xs) : SqT K H' a xs := by
  rcases h with (h | ⟨o, h⟩) | h
  · exact .inl (.inl (e _ _ h))
  · exact .inl (.inr ⟨o, e _ _ h⟩)
  · exact .inr h
theorem Same.cp {K : PySem.W.Frag} {H H' : Hp} {c : Cp} {xs : List V} (e : Same H H') (h : c.at K H xs) : c.at K H' xs := by
  cases c with
  | lst a => exact Same.seq e h
  | tup a => exact Same.tup e h
  | txt x => exact h
def FrAt (K : PySem.W.Frag) (H : Hp) (p : Addr) (f : Fra) : Prop := SqT K H p [.int f.1, .int f.2]
theorem FrAt.same {K : PySem.W.Frag} {H H' : Hp} {p : Addr} {f : Fra} (e : Same H H') (h : FrAt K H p f) : FrAt K H' p f := Same.tup e h
def RowAt (K : PySem.W.Frag) (H : Hp) (c : Cp) (fs : List Fra) : Prop := ∃ ps : List Addr, c.at K H (ps.map V.ref) ∧ Paired (FrAt K H) ps fs
theorem RowAt.same {K : PySem.W.Frag} {H H' : Hp} {c : Cp} {fs : List Fra} (e : Same H H') (h : RowAt K H c fs) : RowAt K H' c fs := by
  obtain ⟨ps, a, b⟩ := h
  exact ⟨ps, Same.cp e a, Paired.mapP b fun _ _ z => z.same e⟩
def MatAt (K : PySem.W.Frag) (H : Hp) (c : Cp) (rows : List (List Fra)) : Prop := ∃ cs : List Cp, c.at K H (cs.map Cp.val) ∧ Paired (RowAt K H) cs rows
theorem Paired.at {α β : Type} {F : α → β → Prop} : ∀ {l₁ : List α} {l₂ : List β} {i : Nat} {x : α}, Paired F l₁ l₂ → l₁[i]? = some x → ∃ y, l₂[i]? = some y ∧ F x y
  | _, _, i, _, .nil, e => by simp at e
  | _, _, 0, _, .cons r _, e => by simp at e; subst e; exact ⟨_, rfl, r⟩
  | _, _, i + 1, x, .cons _ t, e => by
    obtain ⟨y, h1, h2⟩ := Paired.at (i := i) (x := x) t (by simpa using e)
    exact ⟨y, by simpa using h1, h2⟩
theorem Paired.len {α β : Type} {F : α → β → Prop} {l₁ : List α} {l₂ : List β} (h : Paired F l₁ l₂) : l₁.length = l₂.length := Paired.length h
theorem Paired.snoc {α β : Type} {F : α → β → Prop} {x : α} {y : β} : ∀ {l₁ : List α} {l₂ : List β}, Paired F l₁ l₂ → F x y → Paired F (l₁ ++ [x]) (l₂ ++ [y])
  | _, _, .nil, h => .cons h .nil
  | _, _, .cons r t, h => .cons r (Paired.snoc t h)
theorem take_snoc {α : Type} {l : List α} {i : Nat} {x : α} (h : l[i]? = some x) : l.take (i + 1) = l.take i ++ [x] := by
  rw [List.take_add_one, h]; rfl
theorem map_take_snoc {α β : Type} {l : List α} {f : α → β} {i : Nat} {x : α} (h : l[i]? = some x) : (l.map f).take (i + 1) = (l.map f).take i ++ [f x] := take_snoc (by rw [List.getElem?_map, h]; rfl)
/-! ### tests -/
theorem ite_ne {i j : Int} {A B : Prop} (h1 : i ≠ j → A) (h2 : i = j → B) : if (!decide (V.int i = V.int j)) = true then A else B := by
  by_cases h : i = j
  · rw [dec_int, if_neg (by simp [h])]; exact h2 h
  · rw [dec_int, if_pos (by simp [h])]; exact h1 h
theorem ite_eq {i j : Int} {A B : Prop} (h1 : i = j → A) (h2 : i ≠ j → B) : if (decide (V.int i = V.int j)) = true then A else B := by
  by_cases h : i = j
  · rw [dec_int, if_pos (by simp [h])]; exact h1 h
  · rw [dec_int, if_neg (by simp [h])]; exact h2 h
theorem ite_dec {p : Prop} [Decidable p] {A B : Prop} (h1 : p → A) (h2 : ¬ p → B) : if (decide p) = true then A else B := by
  by_cases h : p
  · rw [if_pos (decide_eq_true h)]; exact h1 h
  · rw [if_neg (by rw [decide_eq_false h]; exact Bool.false_ne_true)]; exact h2 h
theorem iteNF {A B : Prop} (h : A) : if (!false) = true then A else B := by
  rw [if_pos (show (!false) = true from rfl)]; exact h
theorem iteNT {A B : Prop} (h : B) : if (!true) = true then A else B := by
  rw [if_neg (by decide)]; exact h
/-! ### names -/
structure Dn (K : PySem.W.Frag) (mg : Str → Option Value) (x : Str) (st : Stmt) (ps : List Str) (f : Addr) (fd : FuncData) : Prop where
  fn : Fun K x x st f fd
  b : Binds K fd ps []
  m : mg x = some (.ref f)
/-! ### promises of the fractions' and prices' defs -/
def spGcd : Sp := fun vs H Q _ => ∃ a b : Int, vs = [.int a, .int b] ∧ 0 ≤ b ∧ Q (.int (Int.gcd a b)) H
def lm (a b : Int) : Int := a / (Int.gcd a b : Int) * b
def spLow (K : PySem.W.Frag) : Sp := fun vs H Q _ => ∃ (p : Addr) (f : Fra), vs = [.ref p] ∧ FrAt K H p f ∧ 0 < f.2 ∧ f.2 < 1073741824 ∧
  ∀ q, H q = none → Q (.ref q) (L2.upd H q (.tup [.int (loF f).1, .int (loF f).2]))
def OkF (f : Fra) : Prop := 1 ≤ f.2 ∧ f.2 < 1073741824
def spLowPrice (K : PySem.W.Frag) : Sp := fun vs H Q _ => ∃ (p : Addr) (f : Fra), vs = [.ref p] ∧ FrAt K H p f ∧ OkF f ∧
  ∀ q, H q = none → Q (.ref q) (L2.upd H q (.tup [.int (loF f).1, .int (loF f).2]))
def spLowPrices (K : PySem.W.Frag) : Sp := fun vs H Q _ => ∃ (c : Cp) (fs : List Fra), vs = [c.val] ∧ RowAt K H c fs ∧ (∀ f ∈ fs, OkF f) ∧ fs.length ≤ 1000 ∧
  ∀ q H', Same H H' → H q = none → RowAt K H' (.tup q) (fs.map loF) → Q (.ref q) H'
def unitOf (o m : Int) (rows : List (List Fra)) : Int := (rows.flatten.map (·.2)).foldl lm (lm o m)
def undersOf (fo fm : Fra) (rows : List (List Fra)) : List Int := fo.2 :: fm.2 :: rows.flatten.map (·.2)
def spUnders (K : PySem.W.Frag) : Sp := fun vs H Q _ => ∃ (P o m : Addr) (rows : List (List Fra)) (fo fm : Fra), vs = [.ref P, .ref o, .ref m] ∧ MatAt K H (.tup P) rows ∧ FrAt K H o fo ∧ FrAt K H m fm ∧
  rows.length ≤ 12 ∧ (∀ r ∈ rows, r.length ≤ 12) ∧ ∀ l H', Same H H' → H l = none → H' l = some (.lst ((undersOf fo fm rows).map V.int)) → Q (.ref l) H'
def facStep (p : List Int × Int) (b : Int) : List Int × Int := if b / (Int.gcd p.2 b : Int) > 1 then (p.1 ++ [b / (Int.gcd p.2 b : Int)], p.2 * (b / (Int.gcd p.2 b : Int))) else p
def facSt (ns : List Int) : List Int × Int := ns.foldl facStep ([], 1)
def SmallP (n : Int) : Prop := 0 < n ∧ n < 1073741824
def spFactors (K : PySem.W.Frag) : Sp := fun vs H Q _ => ∃ (l : Addr) (ns : List Int), vs = [.ref l] ∧ SqL K H l (ns.map V.int) ∧ ns.length ≤ 1000 ∧ (∀ n ∈ ns, SmallP n) ∧
  ∀ q H', Same H H' → H q = none → H' q = some (.lst ((facSt ns).1.map V.int)) → Q (.ref q) H'
def prodI (fs : List Int) : Int := fs.foldl (· * ·) 1
def spProd (K : PySem.W.Frag) : Sp := fun vs H Q _ => ∃ (l : Addr) (fs : List Int), vs = [.ref l] ∧ SqL K H l (fs.map V.int) ∧ (∀ n ∈ fs, SmallP n) ∧ Q (.int (prodI fs)) H
def spByUnit (K : PySem.W.Frag) : Sp := fun vs H Q _ => ∃ (p : Addr) (f : Fra) (u : Int), vs = [.ref p, .int u] ∧ FrAt K H p f ∧ OkF f ∧ Bg f.1 ∧ Bg (u / f.2) ∧ Q (.int (f.1 * (u / f.2))) H
/-! ### the factors -/
theorem lm_one {b : Int} : lm 1 b = b := by
  unfold lm
  rw [Int.gcd_one_left]
  simp
theorem lm_alt {a b : Int} : lm a b = a * (b / (Int.gcd a b : Int)) := by
  unfold lm
  rw [← Int.mul_ediv_assoc' b (Int.gcd_dvd_left a b), Int.mul_ediv_assoc a (Int.gcd_dvd_right a b)]
structure FacIs (p : List Int × Int) (ns : List Int) : Prop where
  small : ∀ f ∈ p.1, SmallP f
  prod : prodI p.1 = p.2
  unit : p.2 = ns.foldl lm 1
  pos : 0 < p.2
  len : p.1.length ≤ ns.length
theorem prodI_snoc (fs : List Int) (f : Int) : prodI (fs ++ [f]) = prodI fs * f := by
  unfold prodI
  rw [List.foldl_append]
  rfl
theorem fac_div {u b : Int} (hb : SmallP b) : 0 < b / (Int.gcd u b : Int) ∧ b / (Int.gcd u b : Int) ≤ b := by
  have g1 := gcd_pos u hb.1
  exact ⟨Int.ediv_pos_of_pos_of_dvd hb.1 (Int.le_of_lt g1) (Int.gcd_dvd_right u b), Int.ediv_le_self _ (Int.le_of_lt hb.1)⟩
theorem FacIs.step {p : List Int × Int} {ns : List Int} {b : Int} (h : FacIs p ns) (hb : SmallP b) : FacIs (facStep p b) (ns ++ [b]) := by
  obtain ⟨d1, d2⟩ := fac_div (u := p.2) hb
  have e : (ns ++ [b]).foldl lm 1 = p.2 * (b / (Int.gcd p.2 b : Int)) := by
    rw [List.foldl_append, ← h.unit]
    exact lm_alt
  unfold facStep
  split
  · next h1 =>
    refine ⟨fun f hf => ?_, ?_, e.symm, Int.mul_pos h.pos d1, ?_⟩
    · rcases List.mem_append.mp hf with hf | hf
      · exact h.small f hf
      · rw [List.mem_singleton.mp hf]
        exact ⟨d1, Int.lt_of_le_of_lt d2 hb.2⟩
    · rw [prodI_snoc, h.prod]
    · rw [List.length_append, List.length_append]
      exact Nat.add_le_add_right h.len 1
  · next h1 =>
    have e1 : b / (Int.gcd p.2 b : Int) = 1 := by omega
    refine ⟨h.small, h.prod, ?_, h.pos, ?_⟩
    · rw [e, e1, Int.mul_one]
    · rw [List.length_append]
      exact Nat.le_trans h.len (Nat.le_add_right _ _)
theorem facSt_snoc (ns : List Int) (b : Int) : facSt (ns ++ [b]) = facStep (facSt ns) b := by
  unfold facSt
  rw [List.foldl_append]
  rfl
theorem facs_take {ns : List Int} (h : ∀ n ∈ ns, SmallP n) : ∀ i, i ≤ ns.length → FacIs (facSt (ns.take i)) (ns.take i)
  | 0, _ => by
    rw [List.take_zero]
    exact ⟨fun f hf => (by cases hf), rfl, rfl, (by decide), Nat.le_refl _⟩
  | i + 1, hi => by
    have e := List.getElem?_eq_getElem (l := ns) (i := i) hi
    rw [take_snoc e, facSt_snoc]
    exact (facs_take h i (Nat.le_of_lt hi)).step (h _ (List.getElem_mem hi))
theorem facs_is {ns : List Int} (h : ∀ n ∈ ns, SmallP n) : FacIs (facSt ns) ns := by
  have z := facs_take h ns.length (Nat.le_refl _)
  rw [List.take_length] at z
  exact z
theorem unders_unit (fo fm : Fra) (rows : List (List Fra)) : (undersOf fo fm rows).foldl lm 1 = unitOf fo.2 fm.2 rows := by
  unfold undersOf unitOf
  rw [List.foldl_cons, List.foldl_cons, lm_one]
end GP

namespace GP
open PySem L2 GwM
/-! ### methods, data that stays -/
structure Dm (K : PySem.W.Frag) (x qual : Str) (st : Stmt) (ps : List Str) (f : Addr) (fd : FuncData) : Prop where
  fn : Fun K x qual st f fd
  b : Binds K fd ps []
def Dat (H H' : Hp) : Prop := ∀ b u, (∀ C dx fs, u ≠ HO.ins C dx fs) → H b = some u → H' b = some u
theorem Dat.of {H H' : Hp} (e : Same H H') : Dat H H' := fun b u _ h => e b u h
theorem Dat.trans {H H' H'' : Hp} (e : Dat H H') (f : Dat H' H'') : Dat H H'' := fun b u n h => f b u n (e b u n h)
theorem Dat.set {H : Hp} {x C dx : Addr} {fs fs' : List (Str × V)} (h : H x = some (.ins C dx fs)) : Dat H (L2.upd H x (.ins C dx fs')) := fun b u n e => by
  rw [upd_ne (fun z => by subst z; rw [h] at e; cases e; exact n _ _ _ rfl)]; exact e
theorem Dat.tup {K : PySem.W.Frag} {H H' : Hp} {a : Addr} {xs : List V} (e : Dat H H') (h : SqT K H a xs) : SqT K H' a xs := by
  rcases h with (h | ⟨o, h⟩) | h
  · exact .inl (.inl (e _ _ (fun _ _ _ z => by cases z) h))
  · exact .inl (.inr ⟨o, e _ _ (fun _ _ _ z => by cases z) h⟩)
  · exact .inr h
theorem Dat.lst {K : PySem.W.Frag} {H H' : Hp} {a : Addr} {xs : List V} (e : Dat H H') (h : SqL K H a xs) : SqL K H' a xs := by
  rcases h with (h | ⟨o, h⟩) | h
  · exact .inl (.inl (e _ _ (fun _ _ _ z => by cases z) h))
  · exact .inl (.inr ⟨o, e _ _ (fun _ _ _ z => by cases z) h⟩)
  · exact .inr h
theorem Dat.cp {K : PySem.W.Frag} {H H' : Hp} {c : Cp} {xs : List V} (e : Dat H H') (h : c.at K H xs) : c.at K H' xs := by
  cases c with
  | lst a => exact Dat.lst e h
  | tup a => exact Dat.tup e h
  | txt x => exact h
theorem FrAt.dat {K : PySem.W.Frag} {H H' : Hp} {p : Addr} {f : Fra} (e : Dat H H') (h : FrAt K H p f) : FrAt K H' p f := Dat.tup e h
theorem RowAt.dat {K : PySem.W.Frag} {H H' : Hp} {c : Cp} {fs : List Fra} (e : Dat H H') (h : RowAt K H c fs) : RowAt K H' c fs := by
  obtain ⟨ps, a, b⟩ := h
  exact ⟨ps, Dat.cp e a, Paired.mapP b fun _ _ z => z.dat e⟩
def TMat (K : PySem.W.Frag) (H : Hp) (P : Addr) (rows : List (List Fra)) : Prop := ∃ qs : List Addr, SqT K H P (qs.map V.ref) ∧ Paired (fun q r => RowAt K H (.tup q) r) qs rows
theorem TMat.dat {K : PySem.W.Frag} {H H' : Hp} {P : Addr} {rows : List (List Fra)} (e : Dat H H') (h : TMat K H P rows) : TMat K H' P rows := by
  obtain ⟨cs, a, b⟩ := h
  exact ⟨cs, Dat.tup e a, Paired.mapP b fun _ _ z => z.dat e⟩
theorem paired_map {α β γ : Type} {F : γ → β → Prop} {g : α → γ} : ∀ {l₁ : List α} {l₂ : List β}, Paired (fun a b => F (g a) b) l₁ l₂ → Paired F (l₁.map g) l₂
  | _, _, .nil => .nil
  | _, _, .cons r t => .cons r (paired_map t)
theorem TMat.mat {K : PySem.W.Frag} {H : Hp} {P : Addr} {rows : List (List Fra)} (h : TMat K H P rows) : MatAt K H (.tup P) rows := by
  obtain ⟨qs, a, b⟩ := h
  refine ⟨qs.map Cp.tup, ?_, paired_map b⟩
  rw [List.map_map]
  exact a
theorem cp_len {K : PySem.W.Frag} {H : Hp} {c : Cp} {xs : List V} (h : c.at K H xs) (hx : ∀ x, c ≠ .txt x) : LenV K c.val H xs.length := by
  cases c with
  | lst a => exact .inl ⟨_, h, rfl⟩
  | tup a => exact .inr ⟨_, h, rfl⟩
  | txt x => exact absurd rfl (hx x)
theorem RowAt.len {K : PySem.W.Frag} {H : Hp} {c : Cp} {fs : List Fra} (h : RowAt K H c fs) (hx : ∀ x, c ≠ .txt x) : LenV K c.val H fs.length := by
  obtain ⟨ps, a, b⟩ := h
  have z := cp_len a hx
  rw [List.length_map, Paired.len b] at z
  exact z
/-! ### signs -/
def isSignN (n : Nat) : Bool := (decide ((32 : Int) ≤ (n : Int)) && decide ((n : Int) ≤ 126)) && !inV (.int n) [.int 34, .int 37, .int 45]
def Signs (x : Str) : Prop := 0 < x.cps.size ∧ x.cps.size ≤ 100 ∧ (∀ c ∈ x.cps.toList, isSignN c = true) ∧ x.cps.toList.Nodup
theorem signs_at_ne {x : Str} (h : x.cps.toList.Nodup) {i j a b : Nat} (hi : x.cps[i]? = some a) (hj : x.cps[j]? = some b) (hij : i ≠ j) : a ≠ b := by
  intro z
  subst z
  rw [← Array.getElem?_toList] at hi hj
  exact hij ((List.getElem?_inj (List.getElem?_eq_some_iff.mp hi).1 h).mp (hi.trans hj.symm))
theorem met_any (val : Nat → Str) (k : Str) : ∀ i, (met val i).any (· == k) = true → ∃ j, j < i ∧ val j = k
  | 0, h => by rw [met_zero] at h; cases h
  | i + 1, h => by
    rw [met_succ, met_any_step, Bool.or_eq_true] at h
    rcases h with h | h
    · obtain ⟨j, h1, h2⟩ := met_any val k i h
      exact ⟨j, by omega, h2⟩
    · exact ⟨i, by omega, (of_decide_eq_true h).symm⟩
theorem met_full {val : Nat → Str} {n : Nat} (h : ∀ i j, i < n → j < n → i ≠ j → val i ≠ val j) : ∀ i, i ≤ n → (met val i).length = i
  | 0, _ => by rw [met_zero]; rfl
  | i + 1, hi => by
    rw [met_succ, met_length_step]
    have e : ¬ ((met val i).any (· == val i) = true) := fun z => by
      obtain ⟨j, h1, h2⟩ := met_any val _ i z
      exact h j i (by omega) (by omega) (by omega) h2
    rw [if_neg e, met_full h i (by omega)]
theorem met_signs {x : Str} (h : x.cps.toList.Nodup) : (met (signAtS x) x.cps.size).length = x.cps.size := by
  refine met_full (n := x.cps.size) (fun i j hi hj hij z => ?_) _ (Nat.le_refl _)
  unfold signAtS at z
  have e1 : x.cps[i]? = some (x.cps.getD i 0) := by simp [hi]
  have e2 : x.cps[j]? = some (x.cps.getD j 0) := by simp [hj]
  refine signs_at_ne h e1 e2 hij ?_
  have z2 : #[x.cps.getD i 0] = #[x.cps.getD j 0] := congrArg Str.cps z
  simpa using z2
/-! ### what a def of prices promises -/
def spIsSign : Sp := fun vs H Q _ => ∃ c : Nat, vs = [.str ⟨#[c]⟩] ∧ Q (.bl (isSignN c)) H
def spAreSigns : Sp := fun vs H Q _ => ∃ x : Str, vs = [.str x] ∧ x.cps.size ≤ 1000 ∧ ∀ H', Same H H' → Q (.bl (x.cps.toList.all isSignN)) H'
def spCheckSigns : Sp := fun vs H Q _ => ∃ x : Str, vs = [.str x] ∧ Signs x ∧ ∀ H', Same H H' → Q .non H'
def NoTxt (c : Cp) : Prop := ∀ x, c ≠ .txt x
def MatN (K : PySem.W.Frag) (H : Hp) (c : Cp) (rows : List (List Fra)) : Prop := NoTxt c ∧ ∃ cs : List Cp, (∀ d ∈ cs, NoTxt d) ∧ c.at K H (cs.map Cp.val) ∧ Paired (RowAt K H) cs rows
theorem MatN.dat {K : PySem.W.Frag} {H H' : Hp} {c : Cp} {rows : List (List Fra)} (e : Dat H H') (h : MatN K H c rows) : MatN K H' c rows := by
  obtain ⟨n, cs, m, a, b⟩ := h
  exact ⟨n, cs, m, Dat.cp e a, Paired.mapP b fun _ _ z => z.dat e⟩
def Sqr (n : Nat) (rows : List (List Fra)) : Prop := rows.length = n ∧ ∀ r ∈ rows, r.length = n
def spCheckLengths (K : PySem.W.Frag) : Sp := fun vs H Q _ => ∃ (x : Str) (c : Cp) (rows : List (List Fra)), vs = [.str x, c.val] ∧ MatN K H c rows ∧ x.cps.size ≤ 100 ∧ Sqr x.cps.size rows ∧ Q .non H
def At2 (rows : List (List Fra)) (i j : Nat) (f : Fra) : Prop := ∃ r, rows[i]? = some r ∧ r[j]? = some f
def keyOf (a b : Nat) : List Key := [.inr ⟨#[a]⟩, .inr ⟨#[b]⟩]
def CostOk (kvs : List (List Key × V)) (x : Str) (rows : List (List Fra)) (u : Int) : Prop :=
  ∀ i j a b f, x.cps[i]? = some a → x.cps[j]? = some b → At2 rows i j f → valV kvs (keyOf a b) = some (.int (f.1 * (u / f.2)))
def Sm (i : Int) : Prop := i.natAbs < 2 ^ 200
def Bu (i : Int) : Prop := i.natAbs ≤ 2 ^ 4380
theorem Sm.bg {i : Int} (h : Sm i) : Bg i := Nat.lt_of_lt_of_le h (Nat.pow_le_pow_right (by decide) (by decide))
theorem Bu.bg {i : Int} (h : Bu i) : Bg i := Nat.lt_of_le_of_lt h (Nat.pow_lt_pow_right (by decide) (by decide))
def OkB (u : Int) (f : Fra) : Prop := OkF f ∧ Sm f.1 ∧ Bu (u / f.2)
def spCosts (K : PySem.W.Frag) : Sp := fun vs H Q _ => ∃ (x : Str) (P : Addr) (u : Int) (rows : List (List Fra)), vs = [.str x, .ref P, .int u] ∧ TMat K H P rows ∧ x.cps.size ≤ 100 ∧ x.cps.toList.Nodup ∧ Sqr x.cps.size rows ∧ (∀ r ∈ rows, ∀ f ∈ r, OkB u f) ∧
  ∀ d H' kvs, Same H H' → H d = none → H' d = some (.dT kvs) → CostOk kvs x rows u → Q (.ref d) H'
/-! ### an instance of Prices -/
def flds6 (x : Str) (P o m : Addr) (u : Int) (d : Addr × Addr) : List (Str × V) :=
  putF "costs" (.ref d.1) (putF "unit" (.int u) (putF "factors" (.ref d.2) (putF "more" (.ref m) (putF "opening" (.ref o) (putF "pairs" (.ref P) (putF "signs" (.str x) []))))))
theorem flds6_signs {x : Str} {P o m : Addr} {u : Int} {d : Addr × Addr} : (flds6 x P o m u d).lookup ("signs" : Str) = some (.str x) := by
  unfold flds6
  rw [lookup_putF, if_neg (by decide +kernel), lookup_putF, if_neg (by decide +kernel), lookup_putF, if_neg (by decide +kernel), lookup_putF, if_neg (by decide +kernel), lookup_putF, if_neg (by decide +kernel), lookup_putF, if_neg (by decide +kernel), lookup_putF, if_pos rfl]
theorem flds6_opening {x : Str} {P o m : Addr} {u : Int} {d : Addr × Addr} : (flds6 x P o m u d).lookup ("opening" : Str) = some (.ref o) := by
  unfold flds6
  rw [lookup_putF, if_neg (by decide +kernel), lookup_putF, if_neg (by decide +kernel), lookup_putF, if_neg (by decide +kernel), lookup_putF, if_neg (by decide +kernel), lookup_putF, if_pos rfl]
theorem flds6_more {x : Str} {P o m : Addr} {u : Int} {d : Addr × Addr} : (flds6 x P o m u d).lookup ("more" : Str) = some (.ref m) := by
  unfold flds6
  rw [lookup_putF, if_neg (by decide +kernel), lookup_putF, if_neg (by decide +kernel), lookup_putF, if_neg (by decide +kernel), lookup_putF, if_pos rfl]
theorem flds6_factors {x : Str} {P o m : Addr} {u : Int} {d : Addr × Addr} : (flds6 x P o m u d).lookup ("factors" : Str) = some (.ref d.2) := by
  unfold flds6
  rw [lookup_putF, if_neg (by decide +kernel), lookup_putF, if_neg (by decide +kernel), lookup_putF, if_pos rfl]
theorem flds6_unit {x : Str} {P o m : Addr} {u : Int} {d : Addr × Addr} : (flds6 x P o m u d).lookup ("unit" : Str) = some (.int u) := by
  unfold flds6
  rw [lookup_putF, if_neg (by decide +kernel), lookup_putF, if_pos rfl]
theorem flds6_costs {x : Str} {P o m : Addr} {u : Int} {d : Addr × Addr} : (flds6 x P o m u d).lookup ("costs" : Str) = some (.ref d.1) := by
  unfold flds6
  rw [lookup_putF, if_pos rfl]
def flds (x : Str) (P o m : Addr) (u : Int) (d : Addr × Addr) (ou mu : Int) : List (Str × V) :=
  putF "more_units" (.int mu) (putF "opening_units" (.int ou) (flds6 x P o m u d))
theorem flds_old {x : Str} {P o m : Addr} {u : Int} {d : Addr × Addr} {ou mu : Int} {f : Str} (h1 : ¬ f = "more_units") (h2 : ¬ f = "opening_units") : (flds x P o m u d ou mu).lookup f = (flds6 x P o m u d).lookup f := by
  unfold flds
  rw [lookup_putF, if_neg h1, lookup_putF, if_neg h2]
theorem flds_signs {x : Str} {P o m : Addr} {u : Int} {d : Addr × Addr} {ou mu : Int} : (flds x P o m u d ou mu).lookup ("signs" : Str) = some (.str x) := (flds_old (by decide +kernel) (by decide +kernel)).trans flds6_signs
theorem flds_factors {x : Str} {P o m : Addr} {u : Int} {d : Addr × Addr} {ou mu : Int} : (flds x P o m u d ou mu).lookup ("factors" : Str) = some (.ref d.2) := (flds_old (by decide +kernel) (by decide +kernel)).trans flds6_factors
theorem flds_costs {x : Str} {P o m : Addr} {u : Int} {d : Addr × Addr} {ou mu : Int} : (flds x P o m u d ou mu).lookup ("costs" : Str) = some (.ref d.1) := (flds_old (by decide +kernel) (by decide +kernel)).trans flds6_costs
theorem flds7_opening {x : Str} {P o m : Addr} {u : Int} {d : Addr × Addr} {v : V} {f : Str} (h2 : ¬ f = "opening_units") : (putF "opening_units" v (flds6 x P o m u d)).lookup f = (flds6 x P o m u d).lookup f := by
  rw [lookup_putF, if_neg h2]
theorem flds_more_units {x : Str} {P o m : Addr} {u : Int} {d : Addr × Addr} {ou mu : Int} : (flds x P o m u d ou mu).lookup ("more_units" : Str) = some (.int mu) := by
  unfold flds
  rw [lookup_putF, if_pos rfl]
theorem mk_pairs {x : Str} {P o m : Addr} : (putF "more" (.ref m) (putF "opening" (.ref o) (putF "pairs" (.ref P) (putF "signs" (.str x) []))) : List (Str × V)).lookup ("pairs" : Str) = some (.ref P) := by
  rw [lookup_putF, if_neg (by decide +kernel), lookup_putF, if_neg (by decide +kernel), lookup_putF, if_pos rfl]
theorem mk_opening {x : Str} {P o m : Addr} : (putF "more" (.ref m) (putF "opening" (.ref o) (putF "pairs" (.ref P) (putF "signs" (.str x) []))) : List (Str × V)).lookup ("opening" : Str) = some (.ref o) := by
  rw [lookup_putF, if_neg (by decide +kernel), lookup_putF, if_pos rfl]
theorem mk_more {x : Str} {P o m : Addr} : (putF "more" (.ref m) (putF "opening" (.ref o) (putF "pairs" (.ref P) (putF "signs" (.str x) []))) : List (Str × V)).lookup ("more" : Str) = some (.ref m) := by
  rw [lookup_putF, if_pos rfl]
theorem mk_factors {x : Str} {P o m fl : Addr} : (putF "factors" (.ref fl) (putF "more" (.ref m) (putF "opening" (.ref o) (putF "pairs" (.ref P) (putF "signs" (.str x) [])))) : List (Str × V)).lookup ("factors" : Str) = some (.ref fl) := by
  rw [lookup_putF, if_pos rfl]
theorem mk_signs {x : Str} {P o m fl : Addr} {u : Int} : (putF "unit" (.int u) (putF "factors" (.ref fl) (putF "more" (.ref m) (putF "opening" (.ref o) (putF "pairs" (.ref P) (putF "signs" (.str x) []))))) : List (Str × V)).lookup ("signs" : Str) = some (.str x) := by
  rw [lookup_putF, if_neg (by decide +kernel), lookup_putF, if_neg (by decide +kernel), lookup_putF, if_neg (by decide +kernel), lookup_putF, if_neg (by decide +kernel), lookup_putF, if_neg (by decide +kernel), lookup_putF, if_pos rfl]
theorem mk_pairs2 {x : Str} {P o m fl : Addr} {u : Int} : (putF "unit" (.int u) (putF "factors" (.ref fl) (putF "more" (.ref m) (putF "opening" (.ref o) (putF "pairs" (.ref P) (putF "signs" (.str x) []))))) : List (Str × V)).lookup ("pairs" : Str) = some (.ref P) := by
  rw [lookup_putF, if_neg (by decide +kernel), lookup_putF, if_neg (by decide +kernel), lookup_putF, if_neg (by decide +kernel), lookup_putF, if_neg (by decide +kernel), lookup_putF, if_pos rfl]
theorem mk_unit {x : Str} {P o m fl : Addr} {u : Int} : (putF "unit" (.int u) (putF "factors" (.ref fl) (putF "more" (.ref m) (putF "opening" (.ref o) (putF "pairs" (.ref P) (putF "signs" (.str x) []))))) : List (Str × V)).lookup ("unit" : Str) = some (.int u) := by
  rw [lookup_putF, if_pos rfl]
theorem putF_len {f : Str} {v : V} {fs : List (Str × V)} {n : Nat} (h : fs.length ≤ n) : (putF f v fs).length ≤ n + 1 := by
  have := length_putF f v fs
  omega
structure PrAt (K : PySem.W.Frag) (C : Addr) (H : Hp) (x : Addr) (sg : Str) (rows : List (List Fra)) (fo fm : Fra) : Prop where
  sig : Signs sg
  sqr : Sqr sg.cps.size rows
  ok : ∀ r ∈ rows, ∀ f ∈ r, OkB (unitOf fo.2 fm.2 rows) f
  oko : OkB (unitOf fo.2 fm.2 rows) fo
  okm : OkB (unitOf fo.2 fm.2 rows) fm
  pos : 0 < unitOf fo.2 fm.2 rows
  big : Bu (unitOf fo.2 fm.2 rows)
  ob : ∃ dx P o m, ∃ d : Addr × Addr, ∃ kvs, H x = some (.ins C dx (flds sg P o m (unitOf fo.2 fm.2 rows) d (fo.1 * (unitOf fo.2 fm.2 rows / fo.2)) (fm.1 * (unitOf fo.2 fm.2 rows / fm.2)))) ∧ TMat K H P rows ∧ FrAt K H o fo ∧ FrAt K H m fm ∧ H d.1 = some (.dT kvs) ∧ CostOk kvs sg rows (unitOf fo.2 fm.2 rows) ∧
    ∃ fs : List Int, (∀ f ∈ fs, SmallP f) ∧ prodI fs = unitOf fo.2 fm.2 rows ∧ H d.2 = some (.lst (fs.map V.int))
theorem PrAt.same {K : PySem.W.Frag} {C : Addr} {H H' : Hp} {x : Addr} {sg : Str} {rows : List (List Fra)} {fo fm : Fra} (e : Same H H') (h : PrAt K C H x sg rows fo fm) : PrAt K C H' x sg rows fo fm := by
  obtain ⟨a, b, c, d, f, g, i, dx, P, o, m, dd, kvs, h1, h2, h3, h4, h5, h6, fs, h7, h8, h9⟩ := h
  exact ⟨a, b, c, d, f, g, i, dx, P, o, m, dd, kvs, e _ _ h1, h2.dat (Dat.of e), h3.same e, h4.same e, e _ _ h5, h6, fs, h7, h8, e _ _ h9⟩
def NotFac (H : Hp) (x c : Addr) : Prop := ∀ C dx fs, H x = some (.ins C dx fs) → fs.lookup ("factors" : Str) ≠ some (.ref c)
def OkH (f : Fra) : Prop := OkF f ∧ Sm f.1
def loR (rows : List (List Fra)) : List (List Fra) := rows.map fun r => r.map loF
def spInit (K : PySem.W.Frag) (C : Addr) : Sp := fun vs H Q _ => ∃ (x dx o m : Addr) (sg : Str) (c : Cp) (rows : List (List Fra)) (fo fm : Fra), vs = [.ref x, .str sg, c.val, .ref o, .ref m] ∧ H x = some (.ins C dx []) ∧ Signs sg ∧ sg.cps.size ≤ 12 ∧
  MatN K H c rows ∧ Sqr sg.cps.size rows ∧ (∀ r ∈ rows, ∀ f ∈ r, OkH f) ∧ FrAt K H o fo ∧ OkH fo ∧ FrAt K H m fm ∧ OkH fm ∧
  ∀ H', PrAt K C H' x sg (loR rows) (loF fo) (loF fm) → (∀ b u, H b = some u → b ≠ x → H' b = some u) → (∀ c, H c ≠ none → NotFac H' x c) → Q .non H'
def spPairCost (K : PySem.W.Frag) (C : Addr) : Sp := fun vs H Q _ => ∃ (x : Addr) (sg : Str) (rows : List (List Fra)) (fo fm : Fra) (i j a b : Nat) (f : Fra), vs = [.ref x, .str ⟨#[a]⟩, .str ⟨#[b]⟩] ∧ PrAt K C H x sg rows fo fm ∧
  sg.cps[i]? = some a ∧ sg.cps[j]? = some b ∧ At2 rows i j f ∧ ∀ H', Same H H' → Q (.int (f.1 * (unitOf fo.2 fm.2 rows / f.2))) H'
def spMore (K : PySem.W.Frag) (C : Addr) : Sp := fun vs H Q _ => ∃ (x : Addr) (sg : Str) (rows : List (List Fra)) (fo fm : Fra), vs = [.ref x] ∧ PrAt K C H x sg rows fo fm ∧ Q (.int (fm.1 * (unitOf fo.2 fm.2 rows / fm.2))) H
def spInUnits (K : PySem.W.Frag) (C : Addr) : Sp := fun vs H Q _ => ∃ (x : Addr) (n : Int) (sg : Str) (rows : List (List Fra)) (fo fm : Fra), vs = [.ref x, .int n] ∧ PrAt K C H x sg rows fo fm ∧
  ∀ q H', Same H H' → H q = none → H' q = some (.tup [.int (loF (n, unitOf fo.2 fm.2 rows)).1, .int (loF (n, unitOf fo.2 fm.2 rows)).2]) → Q (.ref q) H'
end GP

namespace GP
open PySem L2 GwM
theorem map_at {α β : Type} {l : List α} {g : α → β} {i : Nat} {y : β} (h : (l.map g)[i]? = some y) : ∃ x, l[i]? = some x ∧ y = g x := by
  rw [List.getElem?_map] at h
  cases e : l[i]? with
  | none => rw [e] at h; cases h
  | some x => rw [e] at h; exact ⟨x, rfl, (Option.some.inj h).symm⟩
/-! ### the table of costs while it is filled -/
def CostTo (kvs : List (List Key × V)) (x : Str) (rows : List (List Fra)) (u : Int) (n m : Nat) : Prop :=
  ∀ i j a b f, (i < n ∨ (i = n ∧ j < m)) → x.cps[i]? = some a → x.cps[j]? = some b → At2 rows i j f → valV kvs (keyOf a b) = some (.int (f.1 * (u / f.2)))
theorem CostTo.nil (x : Str) (rows : List (List Fra)) (u : Int) : CostTo [] x rows u 0 0 := fun i j a b f h => by omega
theorem keyOf_inj {a b c d : Nat} (h : keyOf a b = keyOf c d) : a = c ∧ b = d := by
  unfold keyOf at h
  have h1 := (List.cons.inj h).1
  have h2 := (List.cons.inj (List.cons.inj h).2).1
  have e1 : (⟨#[a]⟩ : Str) = ⟨#[c]⟩ := Sum.inr.inj h1
  have e2 : (⟨#[b]⟩ : Str) = ⟨#[d]⟩ := Sum.inr.inj h2
  have z1 : #[a] = #[c] := congrArg Str.cps e1
  have z2 : #[b] = #[d] := congrArg Str.cps e2
  exact ⟨by simpa using z1, by simpa using z2⟩
theorem CostTo.put {kvs : List (List Key × V)} {x : Str} {rows : List (List Fra)} {u : Int} {n m a b : Nat} {f : Fra} (nd : x.cps.toList.Nodup) (h : CostTo kvs x rows u n m) (ha : x.cps[n]? = some a) (hb : x.cps[m]? = some b) (hf : At2 rows n m f) :
    CostTo (putK kvs (keyOf a b) (.int (f.1 * (u / f.2)))) x rows u n (m + 1) := by
  intro i j c d g hij hc hd hg
  rw [valV_put]
  by_cases e : i = n ∧ j = m
  · obtain ⟨rfl, rfl⟩ := e
    rw [ha] at hc
    rw [hb] at hd
    cases hc
    cases hd
    obtain ⟨r, r1, r2⟩ := hf
    obtain ⟨r', r3, r4⟩ := hg
    rw [r1] at r3
    cases r3
    rw [r2] at r4
    cases r4
    rw [if_pos rfl]
  · have hne : ¬ keyOf c d = keyOf a b := fun z => by
      obtain ⟨z1, z2⟩ := keyOf_inj z
      subst z1 z2
      refine e ⟨?_, ?_⟩
      · exact Decidable.byContradiction fun q => signs_at_ne nd hc ha q rfl
      · exact Decidable.byContradiction fun q => signs_at_ne nd hd hb q rfl
    rw [if_neg hne]
    exact h i j c d g (by omega) hc hd hg
theorem CostTo.row {kvs : List (List Key × V)} {x : Str} {rows : List (List Fra)} {u : Int} {n m : Nat} (hm : x.cps.size ≤ m) (h : CostTo kvs x rows u n m) : CostTo kvs x rows u (n + 1) 0 := by
  intro i j a b f hij ha hb hf
  refine h i j a b f ?_ ha hb hf
  have : j < x.cps.size := by
    rw [← Array.getElem?_toList] at hb
    have := (List.getElem?_eq_some_iff.mp hb).1
    simpa using this
  omega
theorem CostTo.all {kvs : List (List Key × V)} {x : Str} {rows : List (List Fra)} {u : Int} {n : Nat} (hn : x.cps.size ≤ n) (h : CostTo kvs x rows u n 0) : CostOk kvs x rows u := by
  intro i j a b f ha hb hf
  refine h i j a b f (.inl ?_) ha hb hf
  have : i < x.cps.size := by
    rw [← Array.getElem?_toList] at ha
    have := (List.getElem?_eq_some_iff.mp ha).1
    simpa using this
  omega
/-! ### the unit -/
theorem lm_pos {a b : Int} (ha : 0 < a) (hb : 0 < b) : 0 < lm a b := by
  have h := gcd_pos a hb
  have := Int.ediv_pos_of_pos_of_dvd ha (Int.le_of_lt h) (Int.gcd_dvd_left a b)
  exact Int.mul_pos this hb
theorem div_abs_le (a g : Int) : (a / g).natAbs ≤ a.natAbs := Int.natAbs_ediv_le_natAbs a g
theorem lm_abs (a b : Int) : (lm a b).natAbs ≤ a.natAbs * b.natAbs := by
  unfold lm
  rw [Int.natAbs_mul]
  exact Nat.mul_le_mul_right _ (div_abs_le a _)
theorem fold_pos : ∀ (l : List Int) {u : Int}, 0 < u → (∀ b ∈ l, 0 < b) → 0 < l.foldl lm u
  | [], _, h, _ => h
  | b :: l, _, h, hb => fold_pos l (lm_pos h (hb b List.mem_cons_self)) fun c hc => hb c (List.mem_cons_of_mem _ hc)
theorem fold_abs {B : Nat} : ∀ (l : List Int) {u : Int}, (∀ b ∈ l, b.natAbs ≤ B) → (l.foldl lm u).natAbs ≤ u.natAbs * B ^ l.length
  | [], _, _ => by simp
  | b :: l, u, h => by
    have h1 := fold_abs (B := B) l (u := lm u b) fun c hc => h c (List.mem_cons_of_mem _ hc)
    have h2 := lm_abs u b
    have h3 := h b List.mem_cons_self
    show (l.foldl lm (lm u b)).natAbs ≤ _
    refine Nat.le_trans h1 ?_
    rw [List.length_cons, Nat.pow_succ, Nat.mul_comm (B ^ l.length) B, ← Nat.mul_assoc]
    exact Nat.mul_le_mul_right _ (Nat.le_trans h2 (Nat.mul_le_mul_left _ h3))
theorem flat_len {n : Nat} : ∀ {rows : List (List Fra)}, (∀ r ∈ rows, r.length = n) → rows.flatten.length = rows.length * n
  | [], _ => by simp
  | r :: rows, h => by
    rw [List.flatten_cons, List.length_append, h r List.mem_cons_self, flat_len fun r' hr => h r' (List.mem_cons_of_mem _ hr), List.length_cons, Nat.succ_mul, Nat.add_comm]
theorem OkF.abs {f : Fra} (h : OkF f) : f.2.natAbs ≤ 2 ^ 30 := by
  obtain ⟨h1, h2⟩ := h
  have : (2 : Nat) ^ 30 = 1073741824 := by decide
  omega
theorem unit_pos {rows : List (List Fra)} {fo fm : Fra} (ho : OkF fo) (hm : OkF fm) (h : ∀ r ∈ rows, ∀ f ∈ r, OkF f) : 0 < unitOf fo.2 fm.2 rows := by
  refine fold_pos _ (lm_pos (by have := ho.1; omega) (by have := hm.1; omega)) fun b hb => ?_
  obtain ⟨f, hf, rfl⟩ := List.mem_map.mp hb
  obtain ⟨r, hr, hfr⟩ := List.mem_flatten.mp hf
  have := (h r hr f hfr).1
  omega
theorem unit_big {n : Nat} {rows : List (List Fra)} {fo fm : Fra} (hn : n ≤ 12) (hs : Sqr n rows) (ho : OkF fo) (hm : OkF fm) (h : ∀ r ∈ rows, ∀ f ∈ r, OkF f) : Bu (unitOf fo.2 fm.2 rows) := by
  have h1 : (unitOf fo.2 fm.2 rows).natAbs ≤ (lm fo.2 fm.2).natAbs * (2 ^ 30) ^ (rows.flatten.map (·.2)).length := by
    refine fold_abs _ fun b hb => ?_
    obtain ⟨f, hf, rfl⟩ := List.mem_map.mp hb
    obtain ⟨r, hr, hfr⟩ := List.mem_flatten.mp hf
    exact (h r hr f hfr).abs
  have h2 : (lm fo.2 fm.2).natAbs ≤ 2 ^ 30 * 2 ^ 30 := Nat.le_trans (lm_abs _ _) (Nat.mul_le_mul ho.abs hm.abs)
  have h3 : (rows.flatten.map (·.2)).length ≤ 144 := by
    rw [List.length_map, flat_len hs.2, hs.1]
    exact Nat.le_trans (Nat.mul_le_mul hn hn) (by decide)
  have h4 : (2 ^ 30 : Nat) ^ (rows.flatten.map (·.2)).length ≤ (2 ^ 30) ^ 144 := Nat.pow_le_pow_right (by decide) h3
  have h5 : (2 ^ 30 : Nat) * 2 ^ 30 * (2 ^ 30) ^ 144 ≤ 2 ^ 4380 := by
    rw [← Nat.pow_mul, ← Nat.pow_add, ← Nat.pow_add]
    exact Nat.pow_le_pow_right (by decide) (by decide)
  exact Nat.le_trans h1 (Nat.le_trans (Nat.mul_le_mul h2 h4) h5)
theorem loF_ok {f : Fra} (h : OkF f) : OkF (loF f) := by
  obtain ⟨h1, h2⟩ := h
  have h0 : 0 < f.2 := by omega
  have p := lo_pos f.1 h0
  have l := lo_le f.1 h0
  exact ⟨by show 1 ≤ (lo f.1 f.2).2; omega, by show (lo f.1 f.2).2 < _; omega⟩
theorem loF_big {f : Fra} (h : Sm f.1) : Sm (loF f).1 := Nat.lt_of_le_of_lt (div_abs_le _ _) h
theorem Bu.div {u : Int} (h : Bu u) (g : Int) : Bu (u / g) := Nat.le_trans (div_abs_le _ _) h
theorem loR_sqr {n : Nat} {rows : List (List Fra)} (h : Sqr n rows) : Sqr n (loR rows) := by
  refine ⟨by unfold loR; rw [List.length_map]; exact h.1, fun r hr => ?_⟩
  obtain ⟨r', h', rfl⟩ := List.mem_map.mp hr
  rw [List.length_map]
  exact h.2 r' h'
theorem loR_all {p : Fra → Prop} {rows : List (List Fra)} (h : ∀ r ∈ rows, ∀ f ∈ r, p (loF f)) : ∀ r ∈ loR rows, ∀ f ∈ r, p f := by
  intro r hr f hf
  obtain ⟨r', h', rfl⟩ := List.mem_map.mp hr
  obtain ⟨f', hf', rfl⟩ := List.mem_map.mp hf
  exact h r' h' f' hf'
end GP

namespace GP
open PySem L2 GwM
theorem SqT.off {K : PySem.W.Frag} {H : Hp} {l a : Addr} {ys xs : List V} {o : HO} (hl : H l = some (.lst ys)) (h : SqT K H a xs) : SqT K (L2.upd H l o) a xs := by
  rcases h with (h | ⟨u, h⟩) | h
  · exact .inl (.inl (by rw [upd_ne (ne_of h hl (by intro z; cases z))]; exact h))
  · exact .inl (.inr ⟨u, by rw [upd_ne (ne_of h hl (by intro z; cases z))]; exact h⟩)
  · exact .inr h
theorem RowAt.off {K : PySem.W.Frag} {H : Hp} {l q : Addr} {ys : List V} {fs : List Fra} {o : HO} (hl : H l = some (.lst ys)) (h : RowAt K H (.tup q) fs) : RowAt K (L2.upd H l o) (.tup q) fs := by
  obtain ⟨ps, a, b⟩ := h
  exact ⟨ps, SqT.off hl a, Paired.mapP b fun _ _ z => SqT.off hl z⟩
def Off (x : Addr) (H H' : Hp) : Prop := ∀ b u, H b = some u → b ≠ x → H' b = some u
theorem Off.of {x : Addr} {H H' : Hp} (e : Same H H') : Off x H H' := fun b u h _ => e b u h
theorem Off.trans {x : Addr} {H H' H'' : Hp} (e : Off x H H') (f : Off x H' H'') : Off x H H'' := fun b u h n => f b u (e b u h n) n
theorem Off.set {x : Addr} {H : Hp} {o : HO} : Off x H (L2.upd H x o) := fun b u h n => by rw [upd_ne n]; exact h
theorem Off.dat {x C dx : Addr} {fs : List (Str × V)} {H H' : Hp} (hx : H x = some (.ins C dx fs)) (e : Off x H H') : Dat H H' := fun b u n h => e b u h fun z => by
  subst z
  rw [hx] at h
  cases h
  exact n _ _ _ rfl
theorem pl1 {a : Str} {x : V} : (putF a x []).length < 1000 := Nat.lt_of_le_of_lt (putF_len (Nat.le_refl 0)) (by decide)
theorem pl2 {a b : Str} {x y : V} : (putF a x (putF b y [])).length < 1000 := Nat.lt_of_le_of_lt (putF_len (putF_len (Nat.le_refl 0))) (by decide)
theorem pl3 {a b c : Str} {x y z : V} : (putF a x (putF b y (putF c z []))).length < 1000 := Nat.lt_of_le_of_lt (putF_len (putF_len (putF_len (Nat.le_refl 0)))) (by decide)
theorem pl4 {a b c d : Str} {x y z w : V} : (putF a x (putF b y (putF c z (putF d w [])))).length < 1000 := Nat.lt_of_le_of_lt (putF_len (putF_len (putF_len (putF_len (Nat.le_refl 0))))) (by decide)
theorem pl5 {a b c d e : Str} {x y z w v : V} : (putF a x (putF b y (putF c z (putF d w (putF e v []))))).length < 1000 := Nat.lt_of_le_of_lt (putF_len (putF_len (putF_len (putF_len (putF_len (Nat.le_refl 0)))))) (by decide)
theorem pl6 {a b c d e g : Str} {x y z w v t : V} : (putF a x (putF b y (putF c z (putF d w (putF e v (putF g t [])))))).length < 1000 := Nat.lt_of_le_of_lt (putF_len (putF_len (putF_len (putF_len (putF_len (putF_len (Nat.le_refl 0))))))) (by decide)
theorem pl7 {x : Str} {P o m : Addr} {u : Int} {d : Addr × Addr} : (flds6 x P o m u d).length < 1000 := Nat.lt_of_le_of_lt (putF_len (putF_len (putF_len (putF_len (putF_len (putF_len (putF_len (Nat.le_refl 0)))))))) (by decide)
theorem pl8 {x : Str} {P o m : Addr} {u : Int} {d : Addr × Addr} {a : Str} {v : V} : (putF a v (flds6 x P o m u d)).length < 1000 := Nat.lt_of_le_of_lt (putF_len (putF_len (putF_len (putF_len (putF_len (putF_len (putF_len (putF_len (Nat.le_refl 0))))))))) (by decide)
end GP

namespace GP
open PySem L2 GwM
/-! ### lowest terms -/
theorem cop_dvd {a b c : Int} (h : Int.gcd a b = 1) (d : a ∣ b * c) : a ∣ c := by
  have d' : a.natAbs ∣ b.natAbs * c.natAbs := by rw [← Int.natAbs_mul]; exact Int.natAbs_dvd_natAbs.mpr d
  have h' : Nat.Coprime a.natAbs b.natAbs := h
  exact Int.natAbs_dvd_natAbs.mp (h'.dvd_of_dvd_mul_left d')
theorem low_uniq {x y x' y' : Int} (hy : 0 < y) (hy' : 0 < y') (h : Int.gcd x y = 1) (h' : Int.gcd x' y' = 1) (e : x * y' = x' * y) : x = x' ∧ y = y' := by
  have d1 : y ∣ y' := cop_dvd (b := x) (by rw [Int.gcd_comm]; exact h) (by rw [e]; exact Int.dvd_mul_left _ _)
  have d2 : y' ∣ y := cop_dvd (b := x') (by rw [Int.gcd_comm]; exact h') (by rw [← e]; exact Int.dvd_mul_left _ _)
  have ey := Int.dvd_antisymm (Int.le_of_lt hy) (Int.le_of_lt hy') d1 d2
  subst ey
  exact ⟨Int.eq_of_mul_eq_mul_right (Int.ne_of_gt hy) e, rfl⟩
theorem cop_step {ov un b : Int} (hb : 0 < b) (hg : Int.gcd ov un = 1) : Int.gcd (ov / (Int.gcd ov b : Int)) (un * (b / (Int.gcd ov b : Int))) = 1 := by
  have h1 : Int.gcd (ov / (Int.gcd ov b : Int)) (b / (Int.gcd ov b : Int)) = 1 := lo_one ov hb
  have h2 : Int.gcd (ov / (Int.gcd ov b : Int)) un = 1 := by
    refine Nat.dvd_one.mp ?_
    rw [← hg]
    refine Int.dvd_gcd (Int.dvd_trans (Int.gcd_dvd_left ..) ?_) (Int.gcd_dvd_right ..)
    exact ⟨_, (lo_fst ov b).symm⟩
  have z : Nat.Coprime (ov / (Int.gcd ov b : Int)).natAbs (un.natAbs * (b / (Int.gcd ov b : Int)).natAbs) := Nat.Coprime.mul_right h2 h1
  rw [← Int.natAbs_mul] at z
  exact z
theorem cross_step {ov un b n p : Int} (he : ov * p = n * un) : ov / (Int.gcd ov b : Int) * (p * b) = n * (un * (b / (Int.gcd ov b : Int))) := by
  have h1 := lo_fst ov b
  have h2 := lo_snd ov b
  unfold lo at h1 h2
  dsimp only at h1 h2
  generalize ov / (Int.gcd ov b : Int) = x at *
  generalize b / (Int.gcd ov b : Int) = y at *
  generalize (Int.gcd ov b : Int) = g at *
  rw [← Int.mul_assoc n, ← he, ← h1, ← h2]
  ac_rfl
theorem lo_eq {n U ov un : Int} (hU : 0 < U) (hun : 0 < un) (hg : Int.gcd ov un = 1) (he : ov * U = n * un) : loF (n, U) = (ov, un) := by
  have c := lo_cross n U
  have e : (lo n U).1 * un = ov * (lo n U).2 := by
    refine Int.eq_of_mul_eq_mul_right (Int.ne_of_gt hU) ?_
    calc (lo n U).1 * un * U = (lo n U).1 * U * un := by ac_rfl
      _ = n * un * (lo n U).2 := by rw [c]; ac_rfl
      _ = ov * (lo n U).2 * U := by rw [← he]; ac_rfl
  obtain ⟨z1, z2⟩ := low_uniq (lo_pos n hU) hun (lo_one n hU) hg e
  show lo n U = (ov, un)
  rw [← z1, ← z2]
end GP

namespace L2
open PySem PySem.Spec PyProof.Rows
/-! ### names seen in a block, decided -/
def freeB (scope : Scope) (X : Cx) : Bool := scope.names.all fun y => (y.2 != NameKind.free) || (X.env.scope.names.lookup y.1 == some NameKind.cell)
def ixB (scope : Scope) (X : Cx) (N : List Str) (nt : Nat) (ix : List Nat) : Bool := (List.range ix.length).all fun k => match N[nt + k]?, ix[k]? with
  | some x, some j => (X.N[j]? == some x) && (scope.names.contains (x, NameKind.free)) && ((relabel scope X.env).names.lookup x == some NameKind.cell)
  | _, _ => false
theorem CompSc.freeB {X : Cx} {scope : Scope} {N : List Str} {nt : Nat} {ix : List Nat} (kind : scope.kind = .function) (cell : ∀ y ∈ scope.names, y.2 = .cell → (y.1, NameKind.free) ∉ scope.names)
    (names : ∀ y ∈ scope.names, y.2 = .local → scope.names.lookup y.1 = some .local) (hf : L2.freeB scope X = true) (hl : N.length = nt + ix.length) (hx : ixB scope X N nt ix = true) (ok : X.Ok) :
    ∃ cl, CompSc X scope cl N (st0 nt ix) := by
  refine CompSc.free kind cell names (fun y hy hk => ?_) hl (fun k j hj => ?_) ok
  · have z := List.all_eq_true.mp hf y hy
    rw [hk] at z
    have z2 : X.env.scope.names.lookup y.1 = some NameKind.cell := by simpa using z
    exact z2
  · have hk : k < ix.length := (List.getElem?_eq_some_iff.mp hj).1
    have z := List.all_eq_true.mp hx k (List.mem_range.mpr hk)
    have hn : nt + k < N.length := by omega
    rw [List.getElem?_eq_getElem hn, hj] at z
    simp only [Bool.and_eq_true] at z
    obtain ⟨⟨z1, z2⟩, z3⟩ := z
    exact ⟨_, List.getElem?_eq_getElem hn, by simpa using z1, by simpa using z2, by simpa using z3⟩
theorem Kp.set0 {r : St} {v : Option V} : Kp (none :: r) ((none :: r).set 0 v) := fun i x e => by
  cases i with
  | zero => cases e
  | succ i => exact e
theorem call_isinstS {X : Cx} : CallR X (.builtin "isinstance") (fun xs H Q => ∃ x n t b, xs = [x, .ty n] ∧ (TyOf X.K H x t ∨ ∃ a ys, x = .ref a ∧ SqT X.K H a ys ∧ t = .type "tuple") ∧ PySem.W.kitOne X.K t (.type n) = some b ∧ Q (.bl b) H) := by
  intro pins s σ H xs us Q I r h
  obtain ⟨x, n, t, b, rfl, ty, e, q⟩ := h
  obtain ⟨u, w', rfl, rx, rn⟩ := vals2 r
  cases rn
  rcases ty with ty | ⟨a, ys, rfl, hs, rfl⟩
  · exact TK.wpAny_up (Nat.le_refl s.toks) (isinst_ok I rx ty e fun tk hup => ⟨.bl b, H, I.tok _, rfl, q⟩)
  · cases (show u = Value.ref a from rx)
    obtain ⟨its, _, ⟨o, h1, h2, _⟩, _⟩ := I.tuple hs
    exact TK.wpAny_up (Nat.le_refl s.toks) (PySem.W.kia_one PySem.W.kitx_tuple I.kIn ⟨o, h1, h2⟩ e (fun z => nomatch z) fun tk hup => ⟨.bl b, H, I.tok _, rfl, q⟩)
end L2
namespace GP
open PySem L2 GwM
theorem kit_same {K : PySem.W.Frag} {t : Value} : PySem.W.kitOne K t t = some true := by unfold PySem.W.kitOne; rw [if_pos (by simp)]
theorem kit_int_bool {K : PySem.W.Frag} : PySem.W.kitOne K (.type "int") (.type "bool") = some false := by kernel_rfl
/-! ### the heap without the counter -/
def Wo (t : Addr) (H : Hp) : Hp := fun b => if b = t then none else H b
theorem Wo.sub {t : Addr} {H : Hp} : Same (Wo t H) H := fun b u h => by
  unfold Wo at h
  by_cases e : b = t
  · rw [if_pos e] at h; cases h
  · rw [if_neg e] at h; exact h
theorem Wo.ne {t : Addr} {H : Hp} {b : Addr} {u : HO} (h : Wo t H b = some u) : b ≠ t := fun e => by
  unfold Wo at h
  rw [if_pos e] at h; cases h
theorem Wo.in {t : Addr} {H : Hp} {b : Addr} {u : HO} (n : b ≠ t) (h : H b = some u) : Wo t H b = some u := by
  unfold Wo
  rw [if_neg n]; exact h
theorem Wo.free {t : Addr} {H : Hp} {b : Addr} (h : H b = none) : Wo t H b = none := by
  unfold Wo
  split
  · rfl
  · exact h
theorem Wo.set {t : Addr} {H : Hp} {o : HO} : Wo t (L2.upd H t o) = Wo t H := by
  funext b
  unfold Wo
  by_cases e : b = t
  · rw [if_pos e, if_pos e]
  · rw [if_neg e, if_neg e, upd_ne e]
theorem Wo.same {t : Addr} {H H' : Hp} (e : Same H H') : Same (Wo t H) (Wo t H') := fun b u h => Wo.in (Wo.ne h) (e b u (Wo.sub b u h))
theorem Wo.upd {t : Addr} {H : Hp} {o : HO} : Same (Wo t H) (L2.upd H t o) := fun b u h => by rw [upd_ne (Wo.ne h)]; exact Wo.sub b u h
theorem upd_free {H : Hp} {t r : Addr} {o : HO} (h : L2.upd H t o r = none) : H r = none := by
  by_cases e : r = t
  · rw [e, upd_same] at h; cases h
  · rw [upd_ne e] at h; exact h
/-! ### the script and the counter -/
structure Ctr (K : PySem.W.Frag) (H : Hp) (s t : Addr) (ns : List Int) (k : Int) : Prop where
  sq : SqL K (Wo t H) s (ns.map V.int)
  len : ns.length ≤ 63
  at_ : H t = some (.lst [.int k])
  k0 : 0 ≤ k
theorem Ctr.scr {K : PySem.W.Frag} {H : Hp} {s t : Addr} {ns : List Int} {k : Int} (c : Ctr K H s t ns k) : SqL K H s (ns.map V.int) := Same.seq Wo.sub c.sq
theorem Ctr.scr' {K : PySem.W.Frag} {H : Hp} {s t : Addr} {ns : List Int} {k : Int} (c : Ctr K H s t ns k) (o : HO) : SqL K (L2.upd H t o) s (ns.map V.int) := Same.seq Wo.upd c.sq
theorem Ctr.same {K : PySem.W.Frag} {H H' : Hp} {s t : Addr} {ns : List Int} {k : Int} (c : Ctr K H s t ns k) (e : Same H H') : Ctr K H' s t ns k := ⟨Same.seq (Wo.same e) c.sq, c.len, e _ _ c.at_, c.k0⟩
theorem Ctr.step {K : PySem.W.Frag} {H : Hp} {s t : Addr} {ns : List Int} {k k' : Int} (c : Ctr K H s t ns k) (h : 0 ≤ k') : Ctr K (L2.upd H t (.lst [.int k'])) s t ns k' := ⟨by rw [Wo.set]; exact c.sq, c.len, upd_same, h⟩
theorem Ctr.off {K : PySem.W.Frag} {H H' : Hp} {s t : Addr} {ns : List Int} {k k' : Int} (c : Ctr K H s t ns k) (e : Same (Wo t H) (Wo t H')) (h : H' t = some (.lst [.int k'])) (h0 : 0 ≤ k') : Ctr K H' s t ns k' := ⟨Same.seq e c.sq, c.len, h, h0⟩
theorem bg_small {c : Int} (h1 : -(10 ^ 40) ≤ c) (h2 : c ≤ 10 ^ 40) : Sm c := by
  have h : c.natAbs ≤ 10 ^ 40 := by omega
  have h3 : (10 : Nat) ^ 40 < 2 ^ 200 := by decide
  exact Nat.lt_of_le_of_lt h h3
def OkL (f : Fra) : Prop := 1 ≤ f.2 ∧ f.2 ≤ 999 ∧ Sm f.1
theorem OkL.h {f : Fra} (h : OkL f) : OkH f := ⟨⟨h.1, by have := h.2.1; omega⟩, h.2.2⟩
/-! ### promises of the law's defs -/
def spNext (K : PySem.W.Frag) : Sp := fun vs H Q _ => ∃ (s t : Addr) (ns : List Int) (k : Int), vs = [.ref s, .ref t] ∧ Ctr K H s t ns k ∧ k ≤ 100000 ∧
  ∀ m : Int, 0 ≤ m → m < 1999999973 → Q (.int m) (L2.upd H t (.lst [.int (k + 1)]))
def spFrac (K : PySem.W.Frag) : Sp := fun vs H Q _ => ∃ (s t : Addr) (ns : List Int) (k : Int), vs = [.ref s, .ref t] ∧ Ctr K H s t ns k ∧ k ≤ 100000 ∧
  ∀ (f : Fra) (q : Addr) (H' : Hp), OkL f → Same (L2.upd H t (.lst [.int (k + 1)])) H' → H q = none → H' q = some (.tup [.int f.1, .int f.2]) → Q (.ref q) H'
structure LMat (K : PySem.W.Frag) (H : Hp) (l : Addr) (rs : List Addr) (rows : List (List Fra)) : Prop where
  len : rs.length = rows.length
  at_ : H l = some (.lst (rs.map V.ref))
  nd : rs.Nodup
  nl : l ∉ rs
  row : ∀ (i : Nat) r row, rs[i]? = some r → rows[i]? = some row → ∃ ps : List Addr, H r = some (.lst (ps.map V.ref)) ∧ Paired (FrAt K H) ps row
theorem LMat.same {K : PySem.W.Frag} {H H' : Hp} {l : Addr} {rs : List Addr} {rows : List (List Fra)} (e : Same H H') (h : LMat K H l rs rows) : LMat K H' l rs rows :=
  ⟨h.len, e _ _ h.at_, h.nd, h.nl, fun i r row h1 h2 => by
    obtain ⟨ps, a, b⟩ := h.row i r row h1 h2
    exact ⟨ps, e _ _ a, Paired.mapP b fun _ _ z => z.same e⟩⟩
theorem paired_ix {α β : Type} {F : α → β → Prop} : ∀ {l₁ : List α} {l₂ : List β}, l₁.length = l₂.length → (∀ (i : Nat) x y, l₁[i]? = some x → l₂[i]? = some y → F x y) → Paired F l₁ l₂
  | [], [], _, _ => .nil
  | x :: l₁, y :: l₂, hl, h => .cons (h 0 x y rfl rfl) (paired_ix (by simpa using hl) fun i a b h1 h2 => h (i + 1) a b h1 h2)
theorem LMat.matN {K : PySem.W.Frag} {H : Hp} {l : Addr} {rs : List Addr} {rows : List (List Fra)} (h : LMat K H l rs rows) : MatN K H (.lst l) rows := by
  refine ⟨fun x z => (by cases z), rs.map Cp.lst, fun d hd x z => ?_, ?_, ?_⟩
  · obtain ⟨q, _, e⟩ := List.mem_map.mp hd
    rw [← e] at z
    cases z
  · rw [List.map_map]
    exact SqL.of h.at_
  · refine paired_map (paired_ix h.len fun i r row h1 h2 => ?_)
    obtain ⟨ps, a, b⟩ := h.row i r row h1 h2
    exact ⟨ps, SqL.of a, b⟩
def spLaw (K : PySem.W.Frag) : Sp := fun vs H Q _ => ∃ (a : Addr) (ns : List Int), vs = [.ref a] ∧ SqL K H a (ns.map V.int) ∧ ns.length ≤ 63 ∧ ∀ H', Q (.bl true) H'
end GP

namespace L2
open PySem PySem.Spec PyProof.Rows
set_option maxHeartbeats 2000000 in
theorem comp_core {X : Cx} {elt tg iter : Expr} {scope : Scope} {pos pos' : Pos} {wi : TI} {g : TG} {te : TE} {N : List Str} {σ0 : St → St} (hc : X.calm = true) (hS : X.Ok → ∃ cl, CompSc X scope cl N σ0) (hi : PI X tg iter wi)
    (hg : ∀ cl C s H ex pn E, PG (cxComp X scope cl C N s H ex pn E) tg g) (he : ∀ cl C s H ex pn E, PE (cxComp X scope cl C N s H ex pn E) elt te) (hs : ∀ x, foldedSetIterable iter X.env x = pure x)
    {pins : List (Addr × Obj)} {s : Shared} {σ : St} {H : Hp} {Q : VK} {use : Option (Value → Sem Unit)} {QQ : Value → Shared → Prop} (I : Inv X pins σ H s) (h : tComp wi g te σ0 σ H Q)
    (hfin : ∀ (l C : Addr) (mC : Str → Option Value) (H' : Hp) (s' : Shared), Inv X pins σ H' s' → FpOk X pins H' C → s'.heap.Ns C mC → Q (.ref l) H' → compPost (model X.prog X.w) X.A X.xe use QQ (.ref l) C (.ok .next) s') :
    wpAny (model X.prog X.w) X.A (comprehension (.ListComp elt [⟨tg, iter, [], 0⟩] scope pos) scope X.env pos' (newList []) false (eval iter X.env) use) QQ X.xe s := by
  obtain ⟨cl, S⟩ := hS I.ok
  refine wpAny_comprehension_free (use := use) rfl hs S.clos S.kind S.names (thn (hi pins s σ H _ I h) fun v s1 h1 => thn h1 fun itv s2 h2 => ?_)
  obtain ⟨it, fp, tn, J, H2, e, I2, T, st2, f2, hq⟩ := h2
  subst e
  obtain ⟨W, ⟨m0, w0⟩, turn⟩ := hq _ I2.fresh
  refine wpAny_newObj_type (comp_env S fun cl' h₁ G hns₁ kp => ?_)
  have I3 : Inv X pins σ (upd H2 s2.heap.objs.size (.lst [])) { s2 with heap := s2.heap.push { cls := .type "list", data := .seq ([] : List Value).toArray } } := I2.lnew (t' := s2.toks) .nil (Nat.zero_le _)
  have old23 : ∀ b o, s2.heap.get? b = some o → (s2.heap.push { cls := .type "list", data := .seq ([] : List Value).toArray }).get? b = some o := fun b o e => Heap.get?_push_of_some _ e
  have f3 : ∀ b ∈ fp, FpOk X pins (upd H2 s2.heap.objs.size (.lst [])) b ∧ b < (s2.heap.push { cls := .type "list", data := .seq ([] : List Value).toArray }).objs.size := fun b hb => by
    obtain ⟨o, ho, _⟩ := T.obj _ _ st2 b hb
    have hlt := Heap.lt_size ho
    obtain ⟨f0, f1⟩ := f2 b hb
    exact ⟨⟨by rw [upd_ne (Nat.ne_of_lt hlt)]; exact f0, f1⟩, Heap.lt_size (old23 b o ho)⟩
  have st3 : tn 0 h₁ := T.keep _ _ _ st2 fun b _ o e => kp b o (old23 b o e)
  generalize hR : (fun r s' => compPost (model X.prog X.w) X.A X.xe use QQ (.ref s2.heap.objs.size) (s2.heap.push { cls := .type "list", data := .seq ([] : List Value).toArray }).objs.size r s') = R
  generalize hX' : cxComp X scope cl' (s2.heap.push { cls := .type "list", data := .seq ([] : List Value).toArray }).objs.size N { s2 with heap := s2.heap.push { cls := .type "list", data := .seq ([] : List Value).toArray } }
    (upd H2 s2.heap.objs.size (.lst [])) fp (X.pn ++ pins) (notedBy (model X.prog X.w) X.A (compEnvC scope cl' (s2.heap.push { cls := .type "list", data := .seq ([] : List Value).toArray }).objs.size X.env) fun e s' => R (.error e) s') = X'
  have I4 : Inv X' [] (σ0 σ) (upd H2 s2.heap.objs.size (.lst [])) { s2 with heap := h₁ } := by
    subst hX'
    exact inv_comp (s := { s2 with heap := s2.heap.push { cls := .type "list", data := .seq ([] : List Value).toArray } }) S G I3 f3 kp hns₁ s2.toks
  have PG' : PG X' tg g := by subst hX'; exact hg _ _ _ _ _ _ _
  have PE' : PE X' elt te := by subst hX'; exact he _ _ _ _ _ _ _
  have stat : ∀ {H' : Hp}, (∀ b ∈ fp, H' b = none) → ∀ b ∈ fp, FpOk X' [] H' b := fun hn b hb => by
    subst hX'
    obtain ⟨⟨_, f1, fn, _, f4, f5⟩, lt⟩ := f3 b hb
    refine ⟨hn b hb, Nat.ne_of_lt lt, fun z => ?_, .inl hb, fun x c e => (G.look x c e).elim (fun z => Nat.ne_of_gt (Nat.lt_trans lt z.1)) fun z => f4 x c (S.sub x c z), fun p hp => f5 p ?_⟩
    · rcases List.mem_cons.mp (I3.stkSub b z) with q | q
      · exact f1 q
      · exact fn q
    · rcases List.mem_append.mp hp with z | z
      · exact z
      · cases z
  have hp1 : X'.prog = X.prog := by subst hX'; rfl
  have hp2 : X'.w = X.w := by subst hX'; rfl
  have hp3 : X'.K = X.K := by subst hX'; rfl
  have hp4 : X'.calm = true := by subst hX'; exact hc
  have hp5 : X'.A = X.A := by subst hX'; rfl
  have hp6 : X'.env = compEnvC scope cl' (s2.heap.push { cls := .type "list", data := .seq ([] : List Value).toArray }).objs.size X.env := by subst hX'; rfl
  have hp7 : X'.xe = notedBy (model X.prog X.w) X.A X'.env fun e s' => R (.error e) s' := by subst hX'; rfl
  -- the end
  have fin : ∀ {H' : Hp} {s' : Shared}, Inv X' [] (σ0 σ) H' s' → Q (.ref s2.heap.objs.size) H' → R (.ok .next) s' := by
    intro H' s' I5 q
    subst hR
    obtain ⟨mC, hnC, _⟩ := I5.loc
    rw [hp6] at hnC
    have hok : HOk X.prog X.w H' s'.heap := by
      have z := I5.hok
      rw [hp1, hp2] at z
      exact z
    have u : Un (frs X.stack) fp (upd H2 s2.heap.objs.size (.lst [])) H' (s2.heap.push { cls := .type "list", data := .seq ([] : List Value).toArray }) s'.heap := by
      have z := I5.base
      subst hX'
      exact z
    have hC : H' (s2.heap.push { cls := .type "list", data := .seq ([] : List Value).toArray }).objs.size = none := by
      have zf := I5.free
      rw [hp6] at zf
      exact zf
    refine hfin _ _ mC H' s' (I3.call' (ch := fp) (s' := s') (by have z := I5.os; subst hX'; exact z) u hok I5.bare (fun b hb => ?_) (by have z := I5.up; subst hX'; exact Nat.le_trans I3.up z)) (I3.fpOk (Nat.le_refl _) hC) hnC q
    obtain ⟨⟨_, f1, _, f3', f4, f5⟩, _⟩ := f3 b hb
    exact ⟨f3', f1, f4, f5⟩
  -- the loop
  have loop : ∀ s3 : Shared, Inv X' [] (σ0 σ) (upd H2 s2.heap.objs.size (.lst [])) s3 → tn 0 s3.heap →
      codeAny (model X.prog X.w) X.A (.compLoop (.ListComp elt [⟨tg, iter, [], 0⟩] scope pos) 0 (.ref it) (.ref s2.heap.objs.size) X'.env) R s3 := by
    intro s3 J3 t3
    refine codeAny_loop rfl (fun n s' => ∃ i ys H', Inv X' [] (σ0 σ) H' s' ∧ tn i s'.heap ∧ (∀ b ∈ fp, H' b = none) ∧ W i n ys H') ?_ m0 ⟨0, [], _, J3, t3, fun b hb => (f3 b hb).1.1, w0⟩
    rintro n s4 ⟨i, ys, H4, J4, t4, n4, w4⟩
    show wpAny _ _ ((compTurn (.ListComp elt [⟨tg, iter, [], 0⟩] scope pos) 0 (.ref it) (.ref s2.heap.objs.size) X'.env).onRaise (fun x => do noteFrame x X'.env; theTreesLotGoes x)) _ _ s4
    refine wpAny_noted ?_
    rw [compTurn_list1]
    refine wpAny_bind (wpAny_standAt (wpAny_bind ?_))
    rcases turn i n ys H4 w4 with ⟨stop, q⟩ | ⟨go, step⟩
    · have z := T.done X' hp1 hp2 hp3 hp4 i [] s4 (σ0 σ) H4 (notedBy (model X.prog X.w) X.A X'.env fun e s' => R (.error e) s') J4 (stat n4) t4 stop
      rw [hp5] at z
      refine wpAny_mono z (fun r s5 ⟨hr, J5⟩ => ?_) fun _ _ x => x
      subst hr
      exact wpAny_pure (fin J5 q)
    · have z := T.item X' hp1 hp2 hp3 hp4 i [] s4 (σ0 σ) H4 (notedBy (model X.prog X.w) X.A X'.env fun e s' => R (.error e) s') J4 (stat n4) t4 go
      rw [hp5] at z
      refine wpAny_mono z (fun r s5 ⟨u, hr, h5⟩ => ?_) fun _ _ x => x
      subst hr
      refine wpAny_bind (wpAny_mono h5 (fun _ s6 ⟨x, H6, J6, r6, y6, t6, n6⟩ => ?_) fun _ _ x => x)
      have J6' := J6.pinned (stat n6) (T.obj _ _ t6)
      have zg := PG' _ s6 (σ0 σ) H6 x u _ J6' r6 (step x H6 y6)
      rw [hp1, hp2, hp5, hp7] at zg
      refine wpAny_bind (wpAny_mono zg (fun _ s7 ⟨σ7, H7, J7, k7, q7⟩ => ?_) fun _ _ x => x)
      have ze := PE' _ s7 σ7 H7 _ J7 q7
      rw [hp1, hp2, hp5, hp7] at ze
      refine wpAny_bind (wpAny_bind (wpAny_mono ze (fun yv s8 ⟨y, H8, J8, r8, e8, z8, m', hm, w8⟩ => ?_) fun _ _ x => x))
      have za := mt_append (X := X') _ s8 σ7 H8 (.ref s2.heap.objs.size) [y] (.ref s2.heap.objs.size) [yv] (fun _ H9 => H9 = upd H8 s2.heap.objs.size (.lst (ys ++ [y]))) J8 rfl (.cons r8 .nil) ⟨_, ys, y, rfl, rfl, e8, z8, rfl⟩
      rw [hp1, hp2, hp5, hp7] at za
      refine wpAny_bind (wpAny_mono za (fun _ s9 ⟨_, H9, J9, _, e9⟩ => ?_) fun _ _ x => x)
      subst e9
      refine wpAny_pure (wpAny_pure ⟨rfl, m', hm, i + 1, ys ++ [y], _, ?_, ?_, ?_, w8⟩)
      · refine J9.unpin.weak ?_ ?_
        · rw [S.len, J9.len]
          subst hX'
          rfl
        · exact k7
      · exact T.keep _ _ _ t6 fun b hb o e => (J9.pin (b, o) (List.mem_append_right _ (List.mem_append_right _ (mem_pinsAt hb e)))).1
      · intro b hb
        obtain ⟨o, e, d⟩ := T.obj _ _ t6 b hb
        exact (J9.pin (b, o) (List.mem_append_right _ (List.mem_append_right _ (mem_pinsAt hb e)))).2.1
  have l0 := loop _ I4 st3
  have l1 := codeAny_compStart_list l0 (T.self X.A 0 _ _ _ st3 l0)
  rw [hp6] at l1
  subst hR
  exact l1
theorem pe_comp {X : Cx} {elt tg iter : Expr} {scope : Scope} {pos : Pos} {wi : TI} {g : TG} {te : TE} {N : List Str} {σ0 : St → St} (hc : X.calm = true) (hS : X.Ok → ∃ cl, CompSc X scope cl N σ0) (hi : PI X tg iter wi)
    (hg : ∀ cl C s H ex pn E, PG (cxComp X scope cl C N s H ex pn E) tg g) (he : ∀ cl C s H ex pn E, PE (cxComp X scope cl C N s H ex pn E) elt te)
    (hs : ∀ x, foldedSetIterable iter X.env x = pure x := by intro _; rfl) : PE X (.ListComp elt [⟨tg, iter, [], 0⟩] scope pos) (tComp wi g te σ0) := by
  intro pins s σ H Q I h
  rw [eval_ListComp]
  refine comp_core (use := none) (QQ := EP X pins σ Q) hc hS hi hg he hs I h ?_
  intro l C mC H' s' I' fp hn q
  exact ⟨mC, hn, fun h' sb => ⟨.ref l, H', I'.moved (ch := [C]) (t' := s'.toks) (fun b o hb e => (sb.2 b (by simpa using hb)).trans e) (fun b hb => by rw [List.mem_singleton.mp hb]; exact fp), rfl, q⟩⟩
theorem ps_setComp {X : Cx} {i : Nat} {y : Str} {py spos : Pos} {elt tg iter : Expr} {scope : Scope} {pos : Pos} {wi : TI} {g : TG} {te : TE} {N : List Str} {σ0 : St → St} (hN : X.N.Nodup) (hi : X.N[i]? = some y) (hx : Loc X.env.scope y)
    (hc : X.calm = true) (hS : X.Ok → ∃ cl, CompSc X scope cl N σ0) (hit : PI X tg iter wi)
    (hg : ∀ cl C s H ex pn E, PG (cxComp X scope cl C N s H ex pn E) tg g) (he : ∀ cl C s H ex pn E, PE (cxComp X scope cl C N s H ex pn E) elt te)
    (hsw : swapsWith (.ListComp elt [⟨tg, iter, [], 0⟩] scope pos) (some (.Name y py)) spos.line X.env = pure true := by rfl)
    (hf : X.fn y = true ∨ X.env.scope.names.lookup y = some .local := by first | exact .inl rfl | exact .inr rfl | assumption)
    (hs : ∀ x, foldedSetIterable iter X.env x = pure x := by intro _; rfl) : PS X (.Assign [.Name y py] (.ListComp elt [⟨tg, iter, [], 0⟩] scope pos) spos) (tAsg (tComp wi g te σ0) (gName i)) := by
  intro pins s σ H D I h
  rw [exec_Assign_Name_used _ _ _ _ hsw]
  refine wpAny_bind (wpAny_standAt (wpAny_bind ?_))
  show wpAny _ X.A (do let _ ← comprehension (.ListComp elt [⟨tg, iter, [], 0⟩] scope pos) scope X.env _ (newList []) false (eval iter X.env) (some (assign (.Name y py) X.env))) _ _ s
  refine wpAny_bind (wpAny_mono (comp_core (use := some (assign (.Name y py) X.env)) (QQ := fun _ s' => SP X pins D .next s') hc hS hit hg he hs I h ?_) (fun _ s' hq => wpAny_pure (wpAny_pure hq)) fun _ _ e => e)
  intro l C mC H' s' I' fp hn q
  show wpAny _ X.A (assign (.Name y py) X.env (.ref l)) _ _ _
  refine wpAny_assign_Name (store_ok2 I' hN hi hx (v := .ref l) rfl (fun s2 I2 sb => ?_) hf)
  obtain ⟨a, sb, ha⟩ := sb
  have nC : C ≠ a := by
    obtain ⟨_, f1, _, _, f4, _⟩ := fp
    rcases ha with z | z
    · rw [z]; exact f1
    · exact fun e => f4 y a z e.symm
  refine ⟨mC, hn.sameBut sb nC, fun h' sb2 => ?_⟩
  refine ⟨_, H', I2.moved (ch := [C]) (t' := s2.toks) (fun b o hb e => (sb2.2 b (by simpa using hb)).trans e) (fun b hb => ?_), q⟩
  rw [List.mem_singleton.mp hb]
  exact fp
end L2
namespace L2
open PySem PySem.Spec PyProof.Rows
/-! ### the written part by another name, for use in a block -/
theorem ix_tupK {X : Cx} {K' : PySem.W.Frag} (hK : X.K = K') : IxR X (rIxT K') := by subst hK; exact ix_tup
theorem ix_listK {X : Cx} {K' : PySem.W.Frag} (hK : X.K = K') : IxR X (rIxL K') := by subst hK; exact ix_list
end L2

namespace GP
open PySem L2 GwM
theorem Wo.upd_ne {t q : Addr} {H : Hp} {o : HO} (n : q ≠ t) : Wo t (L2.upd H q o) = L2.upd (Wo t H) q o := by
  funext b
  by_cases e : b = q
  · subst e
    rw [L2.upd_same]
    unfold Wo
    rw [if_neg n, L2.upd_same]
  · rw [L2.upd_ne e]
    unfold Wo
    split
    · rfl
    · rw [L2.upd_ne e]
theorem Wo.step {t : Addr} {H H' : Hp} {o : HO} (e : Same (L2.upd H t o) H') : Same (Wo t H) (Wo t H') := by
  have z := Wo.same (t := t) e
  rw [Wo.set] at z
  exact z
theorem Wo.back {t r : Addr} {H H' : Hp} {o : HO} (e : Same (Wo t H) (Wo t H')) (ht : H' t = some o) (h : H' r = none) : H r = none := by
  cases q : H r with
  | none => rfl
  | some u =>
    have n : r ≠ t := fun z => by rw [z, ht] at h; cases h
    have z := Wo.sub _ _ (e r u (Wo.in n q))
    rw [h] at z
    cases z
theorem Paired.setP {α β : Type} {F : α → β → Prop} {x : α} {y : β} : ∀ {l₁ : List α} {l₂ : List β} (j : Nat), Paired F l₁ l₂ → F x y → Paired F (l₁.set j x) (l₂.set j y)
  | _, _, _, .nil, _ => .nil
  | _, _, 0, .cons r t, h => .cons h t
  | _, _, j + 1, .cons r t, h => .cons r (Paired.setP j t h)
theorem LMat.put {K : PySem.W.Frag} {H : Hp} {l r p : Addr} {rs ps : List Addr} {rows : List (List Fra)} {row : List Fra} {i j : Nat} {f : Fra} (h : LMat K H l rs rows) (hr : rs[i]? = some r) (hrow : rows[i]? = some row)
    (hps : H r = some (.lst (ps.map V.ref))) (hp : Paired (FrAt K H) ps row) (hf : FrAt K H p f) : LMat K (L2.upd H r (.lst ((ps.map V.ref).set j (.ref p)))) l rs (rows.set i (row.set j f)) := by
  have nlr : l ≠ r := fun z => h.nl (z ▸ List.mem_of_getElem? hr)
  refine ⟨by rw [List.length_set]; exact h.len, by rw [L2.upd_ne nlr]; exact h.at_, h.nd, h.nl, fun i' r' row' h1 h2 => ?_⟩
  have hi : i < rows.length := (List.getElem?_eq_some_iff.mp hrow).1
  by_cases e : i = i'
  · subst e
    rw [hr] at h1
    cases h1
    rw [List.getElem?_set, if_pos rfl, if_pos hi] at h2
    cases h2
    refine ⟨ps.set j p, by rw [L2.upd_same, List.map_set], ?_⟩
    exact Paired.mapP (Paired.setP j hp hf) fun _ _ z => SqT.off hps z
  · rw [List.getElem?_set, if_neg e] at h2
    obtain ⟨ps', a, b⟩ := h.row i' r' row' h1 h2
    have n : r' ≠ r := fun z => by
      subst z
      exact e ((List.getElem?_inj (List.getElem?_eq_some_iff.mp hr).1 h.nd).mp (hr.trans h1.symm))
    exact ⟨ps', by rw [L2.upd_ne n]; exact a, Paired.mapP b fun _ _ z => SqT.off hps z⟩
theorem LMat.snoc {K : PySem.W.Frag} {H H' : Hp} {l r : Addr} {rs ps : List Addr} {rows : List (List Fra)} {row : List Fra} (h : LMat K H l rs rows) (e : Same H H') (hr : H r = none) (hps : H' r = some (.lst (ps.map V.ref))) (hp : Paired (FrAt K H') ps row) :
    LMat K (L2.upd H' l (.lst (rs.map V.ref ++ [.ref r]))) l (rs ++ [r]) (rows ++ [row]) := by
  have hl' := e _ _ h.at_
  have nlr : r ≠ l := fun z => by rw [z, h.at_] at hr; cases hr
  have nin : r ∉ rs := fun z => by
    obtain ⟨i, hi, ei⟩ := List.getElem_of_mem z
    have hi2 : i < rows.length := by rw [← h.len]; exact hi
    obtain ⟨ps', a, _⟩ := h.row i r rows[i] (by rw [List.getElem?_eq_getElem hi, ei]) (List.getElem?_eq_getElem hi2)
    rw [hr] at a
    cases a
  refine ⟨by rw [List.length_append, List.length_append, h.len]; rfl, by rw [L2.upd_same, List.map_append]; rfl, ?_, ?_, fun i r' row' h1 h2 => ?_⟩
  · refine List.nodup_append.mpr ⟨h.nd, (by simp), fun x hx y hy z => ?_⟩
    rw [List.mem_singleton.mp hy] at z
    exact nin (z ▸ hx)
  · intro z
    rcases List.mem_append.mp z with z | z
    · exact h.nl z
    · exact nlr (List.mem_singleton.mp z).symm
  · by_cases q : i < rs.length
    · rw [List.getElem?_append_left q] at h1
      rw [List.getElem?_append_left (by rw [← h.len]; exact q)] at h2
      obtain ⟨ps', a, b⟩ := h.row i r' row' h1 h2
      have n : r' ≠ l := fun z => h.nl (z ▸ List.mem_of_getElem? h1)
      exact ⟨ps', by rw [L2.upd_ne n]; exact e _ _ a, Paired.mapP b fun _ _ z => SqT.off hl' (z.same e)⟩
    · have q' : rs.length ≤ i := Nat.le_of_not_lt q
      rw [List.getElem?_append_right q'] at h1
      rw [List.getElem?_append_right (by rw [← h.len]; exact q')] at h2
      have z : i - rs.length = 0 := by
        have := (List.getElem?_eq_some_iff.mp h1).1
        simp at this
        omega
      rw [z] at h1
      rw [← h.len, z] at h2
      cases h1
      cases h2
      exact ⟨ps, by rw [L2.upd_ne nlr]; exact hps, Paired.mapP hp fun _ _ z => SqT.off hl' z⟩
end GP

namespace GP
open PySem L2 GwM
section
variable {K : PySem.W.Frag} {C : Addr} {H0 H H' : Hp} {t l x o m : Addr} {rs : List Addr} {sg : Str} {rows : List (List Fra)} {fo fm : Fra} {k : Int}
end
end GP

namespace L2
open PySem PySem.Spec PyProof.Rows
section
variable {X : Cx}
end
end L2

namespace GP
open PySem L2 GwM
def Of (sg x : Str) : Prop := ∀ c ∈ x.cps.toList, c ∈ sg.cps.toList
theorem cps_lt {x : Str} {i c : Nat} (h : x.cps[i]? = some c) : i < x.cps.size := by
  rw [← Array.getElem?_toList] at h
  have := (List.getElem?_eq_some_iff.mp h).1
  simpa using this
def pcF (sg : Str) (rows : List (List Fra)) (u : Int) (a b : Nat) : Int :=
  match (rows[sg.cps.toList.idxOf a]?).bind (·[sg.cps.toList.idxOf b]?) with
  | some f => f.1 * (u / f.2)
  | none => 0
theorem pcF_at {sg : Str} {rows : List (List Fra)} {u : Int} {a b : Nat} (sq : Sqr sg.cps.size rows) (ha : a ∈ sg.cps.toList) (hb : b ∈ sg.cps.toList) :
    ∃ i j f, sg.cps[i]? = some a ∧ sg.cps[j]? = some b ∧ At2 rows i j f ∧ pcF sg rows u a b = f.1 * (u / f.2) := by
  have hi := List.idxOf_lt_length_iff.mpr ha
  have hj := List.idxOf_lt_length_iff.mpr hb
  have ei : sg.cps.toList[sg.cps.toList.idxOf a]? = some a := by rw [List.getElem?_eq_getElem hi, List.getElem_idxOf hi]
  have ej : sg.cps.toList[sg.cps.toList.idxOf b]? = some b := by rw [List.getElem?_eq_getElem hj, List.getElem_idxOf hj]
  have hi' : sg.cps.toList.idxOf a < rows.length := by rw [sq.1]; simpa using hi
  have hj' : sg.cps.toList.idxOf b < (rows[sg.cps.toList.idxOf a]).length := by rw [sq.2 _ (List.getElem_mem hi')]; simpa using hj
  refine ⟨_, _, (rows[sg.cps.toList.idxOf a])[sg.cps.toList.idxOf b], by rw [← Array.getElem?_toList]; exact ei, by rw [← Array.getElem?_toList]; exact ej, ⟨_, List.getElem?_eq_getElem hi', List.getElem?_eq_getElem hj'⟩, ?_⟩
  unfold pcF
  rw [List.getElem?_eq_getElem hi']
  show (match (rows[sg.cps.toList.idxOf a])[sg.cps.toList.idxOf b]? with | some f => f.1 * (u / f.2) | none => 0) = _
  rw [List.getElem?_eq_getElem hj']
end GP

namespace GP
open PySem L2 GwM
theorem SqT.wo {K : PySem.W.Frag} {H : Hp} {t a : Addr} {ys xs : List V} (ht : H t = some (.lst ys)) (h : SqT K H a xs) : SqT K (Wo t H) a xs := by
  rcases h with (h | ⟨u, h⟩) | h
  · exact .inl (.inl (Wo.in (ne_of h ht (by intro z; cases z)) h))
  · exact .inl (.inr ⟨u, Wo.in (ne_of h ht (by intro z; cases z)) h⟩)
  · exact .inr h
theorem PrAt.wo {K : PySem.W.Frag} {C : Addr} {H : Hp} {t x : Addr} {ys : List V} {sg : Str} {rows : List (List Fra)} {fo fm : Fra} (ht : H t = some (.lst ys)) (nf : NotFac H x t) (h : PrAt K C H x sg rows fo fm) : PrAt K C (Wo t H) x sg rows fo fm := by
  obtain ⟨a, b, c, d, f, g, i, dx, P, o, m, dd, kvs, h1, ⟨qs, h2, h2'⟩, h3, h4, h5, h6, fs, h7, h8, h9⟩ := h
  have n : dd.2 ≠ t := fun z => nf _ _ _ h1 (by rw [flds_factors, z])
  refine ⟨a, b, c, d, f, g, i, dx, P, o, m, dd, kvs, Wo.in (ne_of h1 ht (by intro z; cases z)) h1, ⟨qs, SqT.wo ht h2, Paired.mapP h2' fun q r z => ?_⟩, SqT.wo ht h3, SqT.wo ht h4, Wo.in (ne_of h5 ht (by intro z; cases z)) h5, h6, fs, h7, h8, Wo.in n h9⟩
  obtain ⟨ps, z1, z2⟩ := z
  exact ⟨ps, SqT.wo ht z1, Paired.mapP z2 fun _ _ y => SqT.wo ht y⟩
end GP

namespace L2
open PySem PySem.Spec PyProof.Rows
/-! ### an exception's object, with or without a traceback; φ holds of its address and of its traceback's -/
def ExcN (h : Heap) (φ : Addr → Prop) (ea : Addr) (cls : Value) (od : Option Addr) : Prop :=
  φ ea ∧ ∃ vs sl, h.get? ea = some ⟨cls, od, .fields vs, sl⟩ ∧ (vs[1]? = some .none ∨
    ∃ T oT ts, vs[1]? = some (.ref T) ∧ T ≠ ea ∧ φ T ∧ h.get? T = some oT ∧ oT.data = .fields ts ∧ 3 < ts.size)
def ExcT (h : Heap) (φ : Addr → Prop) (ea : Addr) (cls : Value) (od : Option Addr) : Prop :=
  φ ea ∧ ∃ vs sl, h.get? ea = some ⟨cls, od, .fields vs, sl⟩ ∧
    ∃ T oT ts, vs[1]? = some (.ref T) ∧ T ≠ ea ∧ φ T ∧ h.get? T = some oT ∧ oT.data = .fields ts ∧ 3 < ts.size
theorem ExcT.n {h : Heap} {φ : Addr → Prop} {ea : Addr} {cls : Value} {od : Option Addr} (x : ExcT h φ ea cls od) : ExcN h φ ea cls od := by
  obtain ⟨p, vs, sl, e, t⟩ := x
  exact ⟨p, vs, sl, e, .inr t⟩
theorem ExcN.to {h : Heap} {φ ψ : Addr → Prop} {ea : Addr} {cls : Value} {od : Option Addr} (x : ExcN h φ ea cls od) (m : ∀ b, φ b → ψ b) : ExcN h ψ ea cls od := by
  obtain ⟨p, vs, sl, e, t⟩ := x
  refine ⟨m _ p, vs, sl, e, ?_⟩
  rcases t with t | ⟨T, oT, ts, a, b, c, d⟩
  · exact .inl t
  · exact .inr ⟨T, oT, ts, a, b, m _ c, d⟩
structure Noted (fr : List Addr) (φ : Addr → Prop) (h h' : Heap) : Prop where
  keep : ∀ b o, h.get? b = some o → ¬ φ b → b ∉ fr → h'.get? b = some o
  slot : ∀ b o, h.get? b = some o → ¬ φ b → ∃ sl, h'.get? b = some { o with slots := sl }
  there : ∀ b o, h.get? b = some o → ∃ o', h'.get? b = some o'
  size : h.objs.size ≤ h'.objs.size
theorem Noted.refl {fr : List Addr} {φ : Addr → Prop} {h : Heap} : Noted fr φ h h := ⟨fun _ _ e _ _ => e, fun _ o e _ => ⟨o.slots, e⟩, fun _ o e => ⟨o, e⟩, Nat.le_refl _⟩
theorem Noted.trans {fr : List Addr} {φ : Addr → Prop} {h h1 h2 : Heap} (a : Noted fr φ h h1) (b : Noted fr φ h1 h2) : Noted fr φ h h2 where
  keep := fun c o e n f => b.keep c o (a.keep c o e n f) n f
  slot := fun c o e n => by
    obtain ⟨sl, e1⟩ := a.slot c o e n
    obtain ⟨sl', e2⟩ := b.slot c _ e1 n
    exact ⟨sl', e2⟩
  there := fun c o e => by
    obtain ⟨o', e1⟩ := a.there c o e
    exact b.there c o' e1
  size := Nat.le_trans a.size b.size
section
variable {M : Model} {A : Around} {E : Value → Shared → Prop} {s : Shared} {base : Heap} {env e0 : Env} {r : List Env} {L ea : Addr} {φ : Addr → Prop} {cls : Value} {od : Option Addr}
theorem frameOf_top {Q : Value → Shared → Prop} (hs : A.frames = some (e0 :: r)) (hl : s.heap.FunFrames base (e0 :: r)) (h0 : e0.frame = some L) (he : env.frame = some L)
    (h : ∀ h', Heap.SlotsOnly ((e0 :: r).filterMap (·.frame)) s.heap h' → Q (.ref L) { s with heap := h' }) : wpAny M A (PySem.frameOf env) Q E s := by
  unfold PySem.frameOf
  refine wpAny_bind (wpAny_frameEnvs hs ?_)
  rw [show ((e0 :: r).dropWhile fun x => x.frame != env.frame) = e0 :: r by simp [List.dropWhile, h0, he]]
  unfold frameObject
  refine wpAny_bind (wpAny_bind (wpAny_readyFrames_fun hl fun h1 k1 => wpAny_pure ?_))
  rw [h0]
  exact wpAny_pure (h h1 k1)
theorem entry_exc {vs : Array Value} {sl : Array (Option Value)} {head : Value} {hadNext : Bool} {Q : Unit → Shared → Prop} (hs : A.frames = some (e0 :: r)) (hl : s.heap.FunFrames base (e0 :: r)) (h0 : e0.frame = some L) (hf : env.frame = some L)
    (pe : φ ea) (he : s.heap.get? ea = some ⟨cls, od, .fields vs, sl⟩) (h1 : 1 < vs.size) (new : ∀ b, s.heap.objs.size ≤ b → φ b)
    (q : ∀ h', Noted (frs (e0 :: r)) φ s.heap h' → ExcT h' φ ea cls od → Q () { s with heap := h' }) :
    wpAny M A (do let a ← PySem.frameOf env; let pl ← entryPlaceOf L hadNext; let b ← EntryCells.newEntry head a .none (rawInt L) .none pl; setField (.ref ea) 1 b) Q E s := by
  have nfr : ea ∉ (e0 :: r).filterMap (·.frame) := fun hm => by
    obtain ⟨_, o, ho, nf⟩ := hl.mem hm
    rw [he] at ho
    cases ho
    exact nf vs rfl
  refine wpAny_bind (frameOf_top hs hl h0 hf fun g k => ?_)
  refine wpAny_bind (wpAny_entryPlaceOf fun pl pk => ?_)
  simp only [EntryCells.newEntry, newFields]
  refine wpAny_bind (wpAny_newObj_type ?_ (pk.sizeOk5 _ _ _ _ _))
  have e1 : g.get? ea = some ⟨cls, od, .fields vs, sl⟩ := (k.2.1 ea nfr).trans he
  have ne : g.objs.size ≠ ea := Nat.ne_of_gt (Heap.lt_size e1)
  generalize hob : ({ cls := .type "traceback", dict := none, data := .fields ([head, .ref L, .none, rawInt L, .none] ++ (if pl.isEmpty then List.replicate 6 Value.none else pl)).toArray } : Obj) = ob
  have e2 := Heap.get?_push_of_some (h := g) ob e1
  refine wpAny_setField e2 rfl h1 (q _ ⟨fun b o e n f => ?_, fun b o e n => ?_, fun b o e => ?_, ?_⟩ ⟨pe, _, sl, Heap.get?_update_self _ e2 rfl, g.objs.size, ob, _, ?_, ne, new _ (Nat.le_of_eq k.1.symm), ?_, by subst hob; rfl, ?_⟩)
  · have be : b ≠ ea := fun z => n (z ▸ pe)
    rw [Heap.get?_update_other _ _ (Ne.symm be)]
    exact Heap.get?_push_of_some _ ((k.2.1 b f).trans e)
  · have be : b ≠ ea := fun z => n (z ▸ pe)
    obtain ⟨sl', e'⟩ := k.2.2 b o e
    refine ⟨sl', ?_⟩
    rw [Heap.get?_update_other _ _ (Ne.symm be)]
    exact Heap.get?_push_of_some _ e'
  · by_cases be : b = ea
    · subst be
      exact ⟨_, Heap.get?_update_self _ e2 rfl⟩
    · obtain ⟨sl', e'⟩ := k.2.2 b o e
      exact ⟨{ o with slots := sl' }, (Heap.get?_update_other _ _ (Ne.symm be)).trans (Heap.get?_push_of_some _ e')⟩
  · rw [Heap.size_after_update, Heap.size_push, k.1]
    exact Nat.le_succ _
  · simp [h1]
  · rw [Heap.get?_update_other _ _ (Ne.symm ne)]
    exact Heap.get?_push_size _ (by subst hob; rfl)
  · rw [List.size_toArray, List.length_append]
    exact Nat.lt_of_lt_of_le (by decide : 3 < 5) (Nat.le_add_right _ _)
theorem note_exc {Q : Unit → Shared → Prop} (hs : A.frames = some (e0 :: r)) (hl : s.heap.FunFrames base (e0 :: r)) (h0 : e0.frame = some L) (hf : env.frame = some L)
    (x : ExcN s.heap φ ea cls od) (new : ∀ b, s.heap.objs.size ≤ b → φ b) (q : ∀ h', Noted (frs (e0 :: r)) φ s.heap h' → ExcT h' φ ea cls od → Q () { s with heap := h' }) :
    wpAny M A (noteFrame (.ref ea) env) Q E s := by
  obtain ⟨pe, vs, sl, he, hv⟩ := x
  unfold noteFrame
  simp only [hf]
  rcases hv with h1 | ⟨T, oT, ts, h1, ne, pT, hT, hd, h3⟩
  · refine wpAny_bind (wpAny_field he rfl h1 ?_)
    rw [if_neg (by decide)]
    exact entry_exc hs hl h0 hf pe he (Array.getElem?_eq_some_iff.mp h1).1 new q
  · have g3 : ts[3]? = some ts[3] := Array.getElem?_eq_getElem h3
    refine wpAny_bind (wpAny_field he rfl h1 ?_)
    rw [if_pos (show (Value.ref T != Value.none) = true by simp)]
    refine wpAny_bind (wpAny_field hT hd g3 ?_)
    by_cases e3 : (ts[3] == rawInt L) = true
    · rw [if_pos e3]
      exact wpAny_pure (q s.heap Noted.refl ⟨pe, vs, sl, he, T, oT, ts, h1, ne, pT, hT, hd, h3⟩)
    · rw [if_neg e3]
      refine wpAny_bind (wpAny_setField hT hd h3 ?_)
      have other : ∀ b, b ≠ T → (s.heap.update T (Obj.mapFields (·.setIfInBounds 3 Value.none))).get? b = s.heap.get? b := fun b z => Heap.get?_update_other _ _ (Ne.symm z)
      have n1 : Noted (frs (e0 :: r)) φ s.heap (s.heap.update T (Obj.mapFields (·.setIfInBounds 3 Value.none))) := by
        refine ⟨fun b o e n f => (other b fun z => n (z ▸ pT)).trans e, fun b o e n => ⟨o.slots, (other b fun z => n (z ▸ pT)).trans e⟩, fun b o e => ?_, Nat.le_of_eq (Heap.size_after_update ..).symm⟩
        by_cases z : b = T
        · subst z
          exact ⟨_, Heap.get?_update_self _ hT (Obj.isFreed_of_fields (Obj.data_mapFields hd _))⟩
        · exact ⟨o, (other b z).trans e⟩
      refine entry_exc (s := { s with heap := s.heap.update T (Obj.mapFields (·.setIfInBounds 3 Value.none)) }) hs (hl.of_keeps fun b o e nf => ⟨o, (other b fun z => ?_).trans e, rfl⟩) h0 hf pe ((other ea (Ne.symm ne)).trans he) (Array.getElem?_eq_some_iff.mp h1).1
        (fun b hb => new b (Nat.le_trans n1.size hb)) fun h' n2 x2 => q h' (n1.trans n2) x2
      subst z
      rw [hT] at e
      cases e
      exact nf ts hd
theorem flight_exc {fl : Option Addr} {fr : List Addr} {Q : Unit → Shared → Prop} (x : ExcT s.heap φ ea cls od) (q : ∀ h', Noted fr φ s.heap h' → ExcT h' φ ea cls od → Q () { s with heap := h' }) :
    wpAny M A (setFlight (.ref ea) fl) Q E s := by
  obtain ⟨pe, vs, sl, he, T, oT, ts, h1, ne, pT, hT, hd, h3⟩ := x
  unfold setFlight
  refine wpAny_bind (wpAny_field he rfl h1 ?_)
  rw [if_pos (show (Value.ref T != Value.none) = true by simp)]
  have other : ∀ (f : Obj → Obj) b, b ≠ T → (s.heap.update T f).get? b = s.heap.get? b := fun f b z => Heap.get?_update_other _ _ (Ne.symm z)
  refine wpAny_setField hT hd h3 (q _ ⟨fun b o e n f => (other _ b fun z => n (z ▸ pT)).trans e, fun b o e n => ⟨o.slots, (other _ b fun z => n (z ▸ pT)).trans e⟩, fun b o e => ?_, Nat.le_of_eq (Heap.size_after_update ..).symm⟩
    ⟨pe, vs, sl, (other _ ea (Ne.symm ne)).trans he, T, _, _, h1, ne, pT, Heap.get?_update_self _ hT (Obj.isFreed_of_fields (Obj.data_mapFields hd _)), Obj.data_mapFields hd _, by simp [h3]⟩)
  by_cases z : b = T
  · subst z
    exact ⟨_, Heap.get?_update_self _ hT (Obj.isFreed_of_fields (Obj.data_mapFields hd _))⟩
  · exact ⟨o, (other _ b z).trans e⟩
end
end L2

namespace L2
open PySem PySem.Spec PyProof.Rows
section
variable {X : Cx} {pins : List (Addr × Obj)} {σ : St} {H H' : Hp} {s : Shared}
def XOk (X : Cx) (pins : List (Addr × Obj)) (H : Hp) (b : Addr) : Prop :=
  H b = none ∧ b ≠ X.env.locals ∧ b ∉ X.fs ∧ (X.s₀.heap.get? b = none ∨ b ∈ X.ex) ∧ (∀ x c, X.env.cells.lookup x = some c → c ≠ b) ∧ ∀ p ∈ X.pn ++ pins, p.1 ≠ b
theorem Inv.xok {b : Addr} (I : Inv X pins σ H s) (hn : s.heap.get? b = none) (hH : H' b = none) : XOk X pins H' b := by
  refine ⟨hH, fun z => ?_, fun z => ?_, ?_, fun x c e z => ?_, fun p hp z => ?_⟩
  · obtain ⟨m, ⟨o, _, _, ho, _⟩, _⟩ := I.loc
    rw [← z, hn] at ho
    cases ho
  · obtain ⟨_, o, ho, _⟩ := I.funs.mem z
    rw [hn] at ho
    cases ho
  · by_cases hx : b ∈ X.ex
    · exact .inr hx
    · left
      cases q : X.s₀.heap.get? b with
      | none => rfl
      | some o =>
        obtain ⟨o', e⟩ := I.base.there b o q hx
        rw [hn] at e
        cases e
  · obtain ⟨v, o, ho, _⟩ := I.cell x c e
    rw [z, hn] at ho
    cases ho
  · have q := (I.pin p hp).1
    rw [z, hn] at q
    cases q
theorem Inv.xnew {b : Addr} (I : Inv X pins σ H s) (hb : s.heap.objs.size ≤ b) : XOk X pins H b := I.xok (Heap.get?_none_of_le hb) (I.hok.fresh hb)
theorem Un.noted {fs fr ex : List Addr} {H₀ : Hp} {h₀ h h' : Heap} {φ : Addr → Prop} (u : Un fs ex H₀ H h₀ h) (n : Noted fr φ h h') (new : ∀ b o, h₀.get? b = some o → b ∉ ex → ¬ φ b) (hf : ∀ b o, h₀.get? b = some o → b ∈ fr → b ∈ fs) : Un fs ex H₀ H h₀ h' where
  keep := fun b o e hn nf nx => n.keep b o (u.keep b o e hn nf nx) (new b o e nx) fun z => nf (hf b o e z)
  slot := fun b o e hn hb nx => by
    obtain ⟨sl, e1⟩ := u.slot b o e hn hb nx
    obtain ⟨sl', e2⟩ := n.slot b _ e1 (new b o e nx)
    exact ⟨sl', e2⟩
  free := u.free
  there := fun b o e nx => by
    obtain ⟨o', e1⟩ := u.there b o e nx
    exact n.there b o' e1
  tups := u.tups
  frzs := u.frzs
  tbls := u.tbls
theorem HOk.noted {P : Program} {w : World} {h h' : Heap} {fr : List Addr} {φ : Addr → Prop} (x : HOk P w H h) (n : Noted fr φ h h') (hφ : ∀ b, φ b → H b = none) (hf : ∀ b ∈ fr, H b = none) : HOk P w H h' := fun a u e =>
  (x a u e).stay (fun b v hb q => by
    have nb : H b ≠ none := fun z => by
      rcases hb with y | y
      · rw [y, e] at z; cases z
      · rw [y] at z; cases z
    exact n.keep b v q (fun z => nb (hφ b z)) fun z => nb (hf b z)) (fun _ q => q) fun _ _ q => q
theorem Inv.noted {h' : Heap} (I : Inv X pins σ H s) (n : Noted (frs X.stack) (XOk X pins H) s.heap h') : Inv X pins σ H { s with heap := h' } := by
  have cellK : ∀ x c, X.env.cells.lookup x = some c → ∀ v, s.heap.IsCell c v → h'.IsCell c v := fun x c e v ⟨o, ho, hd⟩ => by
    obtain ⟨sl, q⟩ := n.slot c o ho fun k => k.2.2.2.2.1 x c e rfl
    exact ⟨_, q, hd⟩
  refine ⟨I.ok, I.os, I.bare, I.base.noted n (fun b o e nx k => ?_) (fun b o e z => ?_), ?_, fun x c e => ?_, I.free, I.freeC, fun p hp => ?_, I.hok.noted n (fun b k => k.1) I.stkFree, I.len, I.up⟩
  · rcases k.2.2.2.1 with z | z
    · rw [e] at z; cases z
    · exact nx z
  · rcases List.mem_cons.mp (I.stkSub b z) with q | q
    · subst q
      exact absurd (Nat.lt_of_lt_of_le (Heap.lt_size e) I.ok.above) (Nat.lt_irrefl _)
    · exact q
  · obtain ⟨m, ⟨o, es, ep, ho, rr⟩, hl⟩ := I.loc
    obtain ⟨sl, q⟩ := n.slot _ o ho fun k => k.2.1 rfl
    refine ⟨m, ⟨_, es, ep, q, rr⟩, fun i x v e1 e2 e3 => ?_⟩
    obtain ⟨u, rv, l⟩ := hl i x v e1 e2 e3
    refine ⟨u, rv, ?_⟩
    rcases l with l | ⟨k, c, e, z⟩
    · exact .inl l
    · exact .inr ⟨k, c, e, cellK x c e _ z⟩
  · obtain ⟨v, z⟩ := I.cell x c e
    exact ⟨v, cellK x c e v z⟩
  · obtain ⟨e, hn, ne, nf, d⟩ := I.pin p hp
    refine ⟨n.keep p.1 p.2 e (fun k => k.2.2.2.2.2 p hp rfl) fun z => ?_, hn, ne, nf, d⟩
    rcases List.mem_cons.mp (I.stkSub _ z) with q | q
    · exact ne q
    · exact nf q
end
theorem Un.same {fs ex : List Addr} {H₀ H : Hp} {h₀ h h' : Heap} (u : Un fs ex H₀ H h₀ h) (k : ∀ b o, h₀.get? b = some o → h'.get? b = h.get? b) : Un fs ex H₀ H h₀ h' where
  keep := fun b o e hn nf nx => (k b o e).trans (u.keep b o e hn nf nx)
  slot := fun b o e hn hb nx => by
    obtain ⟨sl, e1⟩ := u.slot b o e hn hb nx
    exact ⟨sl, (k b o e).trans e1⟩
  free := u.free
  there := fun b o e nx => by
    obtain ⟨o', e1⟩ := u.there b o e nx
    exact ⟨o', (k b o e).trans e1⟩
  tups := u.tups
  frzs := u.frzs
  tbls := u.tbls
/-! ### exceptions that leave a def, and what a body wants of them -/
def CXs (P : Program) (w : World) : CXT := fun outer H s E e s' => ∃ ea cls od H', e = .ref ea ∧ s'.os = s.os ∧ AllBare s'.gens ∧ s.toks ≤ s'.toks ∧ Un (frs outer) [] H H' s.heap s'.heap ∧ HOk P w H' s'.heap ∧
  ExcN s'.heap (fun b => s.heap.get? b = none ∧ H' b = none) ea cls od ∧ E cls od H'
def Lets (X : Cx) (E : St → XK) : Prop := ∀ (pins : List (Addr × Obj)) (σ : St) (H : Hp) (s : Shared) (ea : Addr) (cls : Value) (od : Option Addr), Inv X pins σ H s → ExcN s.heap (XOk X pins H) ea cls od → E σ cls od H → X.xe (.ref ea) s
theorem Lets.pass {X : Cx} {E : St → XK} {pins : List (Addr × Obj)} {σ : St} {H : Hp} {s s' : Shared} {e : Value} (L : Lets X E) (I : Inv X pins σ H s) (h : CXs X.prog X.w X.stack H s (E σ) e s') : X.xe e s' := by
  obtain ⟨ea, cls, od, H', rfl, os, bare, tt, un, hok, x, hE⟩ := h
  have I2 : Inv X pins σ H' s' := I.call' (ch := []) os un hok bare (fun b z => nomatch z) (Nat.le_trans I.up tt)
  exact L pins σ H' s' ea cls od I2 (x.to fun b k => I.xok k.1 k.2) hE
theorem Lets.passes {X : Cx} {E : XK} (L : Lets X fun _ => E) : Passes (CXs X.prog X.w) X E := fun _ _ _ _ _ _ I h => L.pass I h
section
variable {P : Program} {w : World} {K : PySem.W.Frag} {mg : Str → Option Value} {base : Heap}
theorem lets_fn {N : List Str} {qual : Str} {scope : Scope} {f : Addr} {cd : Value} {A : Around} {outer : List Env} {s : Shared} {H : Hp} {E : XK} : Lets (cxOf (CXs P w) P w K mg base N qual scope f cd A outer s H E) fun _ => E := by
  intro pins σ H' s' ea cls od I x hE
  show wpAny _ _ (leaving _ (.ref ea)) _ _ s'
  unfold leaving
  refine wpAny_bind (note_exc I.ok.frames I.stack rfl rfl x (fun b hb => I.xnew hb) fun h1 n1 x1 => ?_)
  refine flight_exc (fr := frs (cxOf (CXs P w) P w K mg base N qual scope f cd A outer s H E).stack) x1 fun h2 n2 x2 => ?_
  have I2 := I.noted (n1.trans n2)
  refine ⟨ea, cls, od, H', rfl, I2.os, I2.bare, I2.up, I2.base, I2.hok, x2.n.to fun b k => ⟨?_, k.1⟩, hE⟩
  rcases k.2.2.2.1 with z | z
  · exact z
  · exact nomatch z
theorem passesOwn_fn {N : List Str} {qual : Str} {scope : Scope} {f : Addr} {cd : Value} {A : Around} {outer : List Env} {s : Shared} {H : Hp} {E : XK} :
    PassesOwn (model P w) (cxOf (CXs P w) P w K mg base N qual scope f cd A outer s H E).A (cxOf (CXs P w) P w K mg base N qual scope f cd A outer s H E).env (cxOf (CXs P w) P w K mg base N qual scope f cd A outer s H E).xe := PassesOwn.leaving
theorem Fun.okX {x qual : Str} {st : Stmt} {f : Addr} {fd : FuncData} {N ps : List Str} {k : Nat} {sp : Sp} (F : Fun K x qual st f fd) (S : FnScope N ps (defScope st)) (len : ∀ vs H Q E, sp vs H Q E → vs.length = ps.length)
    (hbody : ∀ (cdv : Value) (A : Around) (outer : List Env) (s : Shared) (H : Hp) (vs : List V) (Q : VK) (E : XK), Room k (A.deeper (envOfC qual (defScope st) s.heap.objs.size f cdv)) → sp vs H Q E →
      ∃ t, PSs (cxOf (CXs P w) P w K mg base N qual (defScope st) f cdv A outer s H E) (defBody st) t ∧ t { nx := fun _ H' => Q .non H', rt := Q } (start N vs) H) : FnOk P w K mg base (CXs P w) (k + 1) f fd ps sp := by
  obtain ⟨oc, od, kV, doc, pm, an, cdv, ct, osl, rfl, lk, hcd⟩ := F.ex
  exact fn_of lk hcd S len fun A outer s H vs Q E hr hsp => hbody cdv A outer s H vs Q E hr hsp
end
theorem ObjOk.got {P : Program} {w : World} {H : Hp} {h : Heap} {a : Addr} {o : HO} (x : ObjOk P w H h a o) : h.get? a ≠ none := by
  cases o with
  | lst xs => obtain ⟨_, _, _, _, e⟩ := x; rw [e]; exact fun z => nomatch z
  | tup xs => obtain ⟨_, _, _, ob, e, _⟩ := x; rw [e]; exact fun z => nomatch z
  | dK kvs => obtain ⟨_, _, _, _, o, _, _, e, _⟩ := x; rw [e]; exact fun z => nomatch z
  | dT kvs => obtain ⟨_, _, _, _, o, _, _, e, _⟩ := x; rw [e]; exact fun z => nomatch z
  | set S n => obtain ⟨o, _, _, _, e, _⟩ := x; rw [e]; exact fun z => nomatch z
  | ins C dx fs => obtain ⟨_, _, _, e, _⟩ := x; rw [e]; exact fun z => nomatch z
  | own y => obtain ⟨_, e⟩ := x; rw [e]; exact fun z => nomatch z
  | xd fs => obtain ⟨_, ⟨_, _, _, e, _⟩, _⟩ := x; rw [e]; exact fun z => nomatch z
  | rng lo hi => obtain ⟨_, _, _, e⟩ := x; rw [e]; exact fun z => nomatch z
  | frz ob u => obtain ⟨e, _⟩ := x; rw [e]; exact fun z => nomatch z
  | tbl ps => have e : h.get? a = some _ := x; rw [e]; exact fun z => nomatch z
  | met f y => have e : h.get? a = some _ := x; rw [e]; exact fun z => nomatch z
  | ext φ => obtain ⟨_, ⟨_, e⟩, _⟩ := x; rw [e]; exact fun z => nomatch z
theorem HOk.none_of {P : Program} {w : World} {H : Hp} {h : Heap} {a : Addr} (x : HOk P w H h) (e : h.get? a = none) : H a = none := by
  cases q : H a with
  | none => rfl
  | some o => exact absurd e (x a o q).got
/-! ### raise of an own class -/
set_option genInjectivity false in
structure XP where
  nm : Str
  q : Str
  N : Addr
  bs : List Value
  bm : List Value
  hdct : Bool
  sn : List Str
  sub : List Value
  ab : Bool
  col : Option Bool
  dd : Option Addr
  k0 : Option Value
  k1 : Option Value
  k2 : Option Value
  k3 : Option Value
  k5 : Option Value
  mN : Str → Option Value
abbrev XP.obj (d : XP) (C : Addr) (newId : String) : Obj := excClassObj d.nm d.q C d.N d.bs d.bm d.hdct d.sn d.sub d.ab d.col d.dd d.k0 d.k1 d.k2 d.k3 d.k5 newId
structure XCls (K : PySem.W.Frag) (C : Addr) (Bn B newId inN nid initId : String) (bmN bmB : List Value) : Prop where
  fn : ExcBaseFacts Bn newId inN bmN
  has : bmB.contains (.type Bn) = true
  fb : ExcBaseFacts B nid initId bmB
  obj : ∀ h : Heap, K.In h → ∃ d : XP, h.get? C = some (d.obj C newId) ∧ h.Ns d.N d.mN ∧ d.mN "__init__" = none ∧ OwnTail h bmB d.bm
def XClsE (K : PySem.W.Frag) (C : Addr) : Prop := ∃ Bn B newId inN nid initId bmN bmB, XCls K C Bn B newId inN nid initId bmN bmB
theorem xcls_of {K : PySem.W.Frag} {C : Addr} (q : PySem.W.excIn K C [.type "ValueError", .type "Exception", .type "BaseException", .type "object"] "ValueError.__new__" = true) : XClsE K C := by
  refine ⟨_, _, _, _, _, _, _, _, PySem.F.excBase_ValueError, PySem.F.excBase_ValueError.hasB, PySem.F.excBase_ValueError, fun h k => ?_⟩
  unfold PySem.W.excIn at q
  split at q
  · rename_i dd cd sl hob
    split at q
    · rename_i C' bm k0 k1 k2 k3 nn k5 hmr hsl0
      simp only [Bool.and_eq_true, beq_iff_eq, Bool.not_eq_true'] at q
      obtain ⟨⟨⟨⟨⟨e1, e2⟩, e3⟩, e4⟩, e5⟩, e6⟩ := q
      subst e1 e2
      obtain ⟨nm, bs, mro, ns, qn, hd, sn, sub, ab, col, del⟩ := cd
      dsimp only at hmr e3 e5 e6
      subst hmr e3
      have hsl : sl = #[k0, k1, k2, k3, some (.builtin "ValueError.__new__"), k5] := by
        obtain ⟨l⟩ := sl
        simp only at hsl0
        rw [hsl0]
      subst hsl
      exact ⟨⟨nm, qn, ns, bs, bm, hd, sn, sub, ab, col, dd, k0, k1, k2, k3, k5, _⟩, k _ _ hob, .of_isNs (PySem.W.isNs_of_in k e5), PySem.W.nsMap_none_of_in k e5 e6, PySem.W.tail_of_in k e4⟩
    · cases q
  · cases q
def tRaise (C : Addr) (E : St → XK) (t : TA) : TS := fun _ σ H => t σ H fun vs H1 => vs.length ≤ sizeLine ∧ E σ (.ref C) none H1
theorem ps_raise {X : Cx} {E : St → XK} {C : Addr} {x : Str} {np cpos pos : Pos} {e : Expr} {es : List Expr} {t : TA} (L : Lets X E) (OE : XClsE X.K C) (hc : X.calm = true)
    (hg : Gl X x) (hm : X.mg x = some (.ref C)) (ha : PA X (e :: es) t) (hdb : (x == ("__debug__" : Str)) = false := by decide) (he : starEach (e :: es) X.env = (false, eval e X.env) :: starEach es X.env := by rfl)
    (hpl : (backTo cpos (starEach es X.env)).any (·.1) = false := by rfl) : PS X (.Raise (some (.Call (.Name x np) (e :: es) [] cpos)) none pos) (tRaise C E t) := by
  intro pins s σ H D I h
  obtain ⟨Bn, B, newId, inN, nid, initId, bmN, bmB, O⟩ := OE
  obtain ⟨d, hC, hN, hni, T⟩ := O.obj X.base I.ok.mod.kin
  refine wpAny_Raise_call_subU (C := C) (nm := d.nm) (q := d.q) (N := d.N) (bs := d.bs) (bm := d.bm) (hdct := d.hdct) (sn := d.sn) (sub := d.sub) (ab := d.ab) (col := d.col) (dd := d.dd) (k0 := d.k0) (k1 := d.k1) (k2 := d.k2) (k3 := d.k3) (k5 := d.k5) O.fn O.has O.fb
    (mN := d.mN) (T.hasType O.fb.hasBase) (I.ok.hd hc) (by rw [he]; show (false || (backTo cpos (starEach es X.env)).any (·.1)) = false; rw [hpl]; rfl) hni (ld_glob I hg hm ⟨rfl, ?_⟩ hdb)
  have z := ha cpos pins s σ H _ I h
  rw [he] at z ⊢
  refine Calls.evalArgs_plain (thn z fun us s2 ⟨vs, H2, I2, r, hl, q2⟩ => ⟨rfl, ?_, I2.bk _ _ hC, hN.keeps I2.bk, T.keeps I2.bk, fun h' ea hm => ?_⟩)
  · show us.length ≤ sizeLine
    rw [← r.length]
    exact hl
  · obtain ⟨t', ht, _, _⟩ := hm.there
    exact L pins σ H2 _ ea (.ref C) none (I2.kept (t' := s2.toks) hm.keeps) ⟨I2.xok hm.new (I2.hok.none_of hm.new), _, _, ht, .inl rfl⟩ q2
end L2

namespace L2
open PySem PySem.Spec PyProof.Rows
/-! ### try .. except -/
def Fm (X : Cx) : Prop := ∃ e0 r L, X.stack = e0 :: r ∧ e0.frame = some L ∧ X.env.frame = some L
theorem fm_nox {CX : CXT} {P : Program} {w : World} {K : PySem.W.Frag} {mg : Str → Option Value} {base : Heap} {N : List Str} {qual : Str} {scope : Scope} {f : Addr} {cd : Value} {A : Around} {outer : List Env} {s : Shared} {H : Hp} {E : XK} :
    Fm (cxOf CX P w K mg base N qual scope f cd A outer s H E).nox := ⟨_, _, _, rfl, rfl, rfl⟩
abbrev Cx.also (X : Cx) (pn : List (Addr × Obj)) (xe : Value → Shared → Prop) : Cx := { X with pn := pn, xe := xe }
theorem Cx.Ok.also {X : Cx} (ok : X.Ok) (pn : List (Addr × Obj)) (xe : Value → Shared → Prop) : (X.also pn xe).Ok :=
  ⟨ok.mod, ok.kind, ok.glob, ok.blt, ok.above, ok.inj, ok.has, ok.cab, ok.hd, ok.frames, ok.stk, ok.exf, ok.bs, ok.bsz, ok.noex, ok.exfs, ok.funs, ok.frf, ok.tk⟩
section
variable {X : Cx} {pins ps : List (Addr × Obj)} {σ : St} {H : Hp} {s : Shared} {xe : Value → Shared → Prop}
theorem Inv.also (I : Inv X pins σ H s) : Inv (X.also (X.pn ++ pins) xe) [] σ H s :=
  ⟨I.ok.also _ _, I.os, I.bare, I.base, I.loc, I.cell, I.free, I.freeC, fun p hp => I.pin p (by simpa using hp), I.hok, I.len, I.up⟩
theorem Inv.unalso (ok : X.Ok) (I : Inv (X.also (X.pn ++ pins) xe) ps σ H s) : Inv X pins σ H s :=
  ⟨ok, I.os, I.bare, I.base, I.loc, I.cell, I.free, I.freeC, fun p hp => I.pin p (List.mem_append_left _ hp), I.hok, I.len, I.up⟩
theorem XOk.unalso {b : Addr} (k : XOk (X.also (X.pn ++ pins) xe) ps H b) : XOk X pins H b :=
  ⟨k.1, k.2.1, k.2.2.1, k.2.2.2.1, k.2.2.2.2.1, fun p hp => k.2.2.2.2.2 p (List.mem_append_left _ hp)⟩
theorem ExcT.to {h : Heap} {φ ψ : Addr → Prop} {ea : Addr} {cls : Value} {od : Option Addr} (x : ExcT h φ ea cls od) (m : ∀ b, φ b → ψ b) : ExcT h ψ ea cls od := by
  obtain ⟨p, vs, sl, e, T, oT, ts, a, b, c, d⟩ := x
  exact ⟨m _ p, vs, sl, e, T, oT, ts, a, b, m _ c, d⟩
end
abbrev TH := Value → Option Addr → TS
def PH (X : Cx) (hs : List ExceptHandler) (th : TH) : Prop :=
  ∀ (pins : List (Addr × Obj)) (s : Shared) (σ : St) (H : Hp) (D : Ends) (ea : Addr) (cls : Value) (od : Option Addr), Inv X pins σ H s → ExcT s.heap (XOk X pins H) ea cls od → th cls od D σ H →
    wpAny (model X.prog X.w) X.A (handleBy (.ref ea) X.env hs) (SP X pins D) X.xe s
def tTry (tb : (St → XK) → TS) (th : TH) : TS := fun D σ H => tb (fun σ' cls od H' => th cls od D σ' H') D σ H
theorem ps_try {X : Cx} {body : List Stmt} {h₀ : ExceptHandler} {hs : List ExceptHandler} {pos : Pos} {tb : (St → XK) → TS} {th : TH} (F : Fm X)
    (hb : ∀ (E : St → XK) (pn : List (Addr × Obj)) (xe : Value → Shared → Prop), Lets (X.also pn xe) E → PassesOwn (model X.prog X.w) X.A X.env xe → PSs (X.also pn xe) body (tb E)) (hh : PH X (h₀ :: hs) th) :
    PS X (.Try body (h₀ :: hs) [] [] pos) (tTry tb th) := by
  intro pins s σ H D I h
  obtain ⟨e0, r, L, hst, h0, hf⟩ := F
  refine wpAny_Try_except ?_
  generalize hxe : (fun e s₁ => wpAny (model X.prog X.w) X.A (noteFrame e X.env) (fun _ s₂ => wpAny (model X.prog X.w) X.A (setFlight e none) (fun _ s₃ => wpAny (model X.prog X.w) X.A (handleBy e X.env (h₀ :: hs)) (SP X pins D) X.xe s₃) X.xe s₂) X.xe s₁) = xe
  have LX : Lets (X.also (X.pn ++ pins) xe) fun σ' cls od H' => th cls od D σ' H' := by
    intro ps σ' H' s' ea cls od J x q
    show xe (.ref ea) s'
    subst hxe
    have fr := J.ok.frames
    have sf := J.stack
    refine note_exc (s := s') (e0 := e0) (r := r) (by rw [← hst]; exact fr) (by rw [← hst]; exact sf) h0 hf x (fun b hb => J.xnew hb) fun h1 n1 x1 => ?_
    refine flight_exc (fr := frs (e0 :: r)) x1 fun h2 n2 x2 => ?_
    have n12 := n1.trans n2
    rw [← hst] at n12
    have J2 := J.noted n12
    exact hh pins _ σ' H' D ea cls od (J2.unalso I.ok) (x2.to fun b k => k.unalso) q
  have po : PassesOwn (model X.prog X.w) X.A X.env xe := by
    subst hxe
    exact PassesOwn.looking
  refine wpAny_mono (hb _ _ xe LX po [] s σ H D I.also h) (fun f s1 q => ?_) fun e s1 q => ?_
  · cases f with
    | next =>
      obtain ⟨σ', H', J, q⟩ := q
      exact wpAny_execs_nil ⟨σ', H', J.unalso I.ok, q⟩
    | brk =>
      obtain ⟨σ', H', J, q⟩ := q
      exact ⟨σ', H', J.unalso I.ok, q⟩
    | cont =>
      obtain ⟨σ', H', J, q⟩ := q
      exact ⟨σ', H', J.unalso I.ok, q⟩
    | ret u =>
      obtain ⟨v, σ', H', J, rv, q⟩ := q
      exact ⟨v, σ', H', J.unalso I.ok, rv, q⟩
  · have q' : xe e s1 := q
    subst hxe
    exact q'
/-! ### the clauses -/
abbrev Cx.within (X : Cx) (ea : Addr) : Cx := { X with A := X.A.mark (some (.ref ea)), calm := false, xe := fun _ _ => False }
theorem Cx.Ok.within {X : Cx} (ok : X.Ok) (ea : Addr) : (X.within ea).Ok :=
  ⟨ok.mod, ok.kind, ok.glob, ok.blt, ok.above, ok.inj, ok.has, ok.cab, (fun z => nomatch z), ok.frames, ok.stk, ok.exf, ok.bs, ok.bsz, ok.noex, ok.exfs, ok.funs, ok.frf, ok.tk⟩
section
variable {X : Cx} {pins : List (Addr × Obj)} {σ : St} {H : Hp} {s : Shared} {ea : Addr}
theorem Inv.within (I : Inv X pins σ H s) (ea : Addr) : Inv (X.within ea) pins σ H s := ⟨I.ok.within ea, I.os, I.bare, I.base, I.loc, I.cell, I.free, I.freeC, I.pin, I.hok, I.len, I.up⟩
theorem Inv.behind (ok : X.Ok) (I : Inv (X.within ea) pins σ H s) : Inv X pins σ H s := ⟨ok, I.os, I.bare, I.base, I.loc, I.cell, I.free, I.freeC, I.pin, I.hok, I.len, I.up⟩
end
def exO (ea : Addr) (cls : Value) (od : Option Addr) : HO := .ext fun h => ∃ vs sl, h.get? ea = some ⟨cls, od, .fields vs, sl⟩
def Ends.un (D : Ends) (i : Nat) : Ends := { nx := fun σ H => D.nx (σ.set i none) H, rt := D.rt, bk := fun σ H => D.bk (σ.set i none) H, ct := fun σ H => D.ct (σ.set i none) H }
theorem Inv.tracks {X : Cx} {pins : List (Addr × Obj)} {σ : St} {H : Hp} {s : Shared} {a : Addr} {o : HO} (I : Inv X pins σ H s) (k : XOk X pins H a) (new : ObjOk X.prog X.w (upd H a o) s.heap a o) : Inv X pins σ (upd H a o) s := by
  obtain ⟨hn, k1, k2, k3, k4, k5⟩ := k
  refine ⟨I.ok, I.os, I.bare, ⟨I.base.keep, I.base.slot, fun b ob q n hx => ?_, I.base.there, fun b xs q => ?_, fun b ob u q => ?_, fun b ps q => ?_⟩, I.loc, I.cell, ?_, fun x c e => ?_, fun p hp => ?_, fun b u q => ?_, I.len, I.up⟩
  · have ne : b ≠ a := fun z => by
      rcases k3 with y | y
      · rw [← z, q] at y; cases y
      · exact hx (z ▸ y)
    rw [upd_ne ne]
    exact I.base.free b ob q n hx
  · have q' := I.base.tups b xs q
    rw [upd_ne (ne_of_none q' hn)]; exact q'
  · have q' := I.base.frzs b ob u q
    rw [upd_ne (ne_of_none q' hn)]; exact q'
  · obtain ⟨more, q'⟩ := I.base.tbls b ps q
    exact ⟨more, by rw [upd_ne (ne_of_none q' hn)]; exact q'⟩
  · rw [upd_ne (Ne.symm k1)]; exact I.free
  · rw [upd_ne (k4 x c e)]; exact I.freeC x c e
  · obtain ⟨e, n, r⟩ := I.pin p hp
    exact ⟨e, by rw [upd_ne (k5 p hp)]; exact n, r⟩
  · by_cases hb : b = a
    · subst hb; rw [upd_same] at q; cases q; exact new
    · rw [upd_ne hb] at q
      exact (I.hok b u q).stay (fun c v _ r => r) (fun c r => by rw [upd_ne (ne_of_none r hn)]; exact r) fun c xs r => by rw [upd_ne (ne_of_none r hn)]; exact r
structure XB (K : PySem.W.Frag) (D : Addr) : Prop where
  hd : PySem.W.hasDictIn K D = true
  ty : PySem.W.typeIn K (.ref D) = some (.type "type")
  be : PySem.W.mroIn K D (.type "BaseException") = some true
theorem exc_match {M : Model} {A : Around} {E : Value → Shared → Prop} {s : Shared} {K : PySem.W.Frag} {Q : Bool → Shared → Prop} {ea C D : Addr} {o : Obj} {b : Bool} (k : K.In s.heap) (he : s.heap.get? ea = some o) (hc : o.cls = .ref C)
    (h0 : PySem.W.subIn K (.ref C) (.ref D) = some b) (h2 : XB K D) (q : Q b s) : wpAny M A (excMatches (.ref ea) (.ref D)) Q E s := by
  have h1 : PySem.W.kitCls K (.ref C) (.ref D) = some b := by
    obtain ⟨cd, hcd, _⟩ := PySem.W.any_some h2.hd
    show (if ((PySem.W.clsIn K D).isSome && PySem.W.typeIn K (.ref D) == some (.type "type")) = true then PySem.W.subIn K (.ref C) (.ref D) else none) = some b
    rw [if_pos (by rw [hcd, h2.ty]; simp)]
    exact h0
  obtain ⟨lt, li, ls⟩ := PySem.W.kit_cls (M := M) k h1
  have lb := PySem.W.looks_mroIn (M := M) k h2.be
  have le : PySem.W.Looks M s.heap (typeOf (.ref ea)) (.ref C) := by
    intro A' Q' E' s' kk qq
    unfold typeOf
    exact wpAny_bind (wpAny_loadPart (kk _ _ he) (wpAny_pure (by rw [hc]; exact qq)))
  have l0 : PySem.W.Looks M s.heap (isInstance (.ref D) (.type "tuple")) false := lt.andThen (PySem.W.Looks.of_pure tc_notTuple)
  have l1 : PySem.W.Looks M s.heap (isExcClass (.ref D)) true := by
    unfold isExcClass
    exact li.andThen lb
  unfold excMatches
  refine wpAny_bind (l0.here (wpAny_bind ?_))
  simp only [Bool.false_eq_true, if_false]
  refine wpAny_pure ?_
  rw [List.forIn_cons]
  refine wpAny_bind (wpAny_bind (wpAny_bind (l1.here ?_)))
  simp only [Bool.not_true, Bool.false_eq_true, if_false]
  refine wpAny_pure (wpAny_pure ?_)
  refine wpAny_bind (le.here (wpAny_bind ?_))
  rw [List.forIn_cons]
  refine wpAny_bind (wpAny_bind (ls.here ?_))
  cases b with
  | true =>
    simp only [if_true]
    exact wpAny_pure (wpAny_pure (wpAny_pure q))
  | false =>
    simp only [Bool.false_eq_true, if_false]
    exact wpAny_pure (wpAny_pure (wpAny_pure q))
theorem name_goes {X : Cx} {pins : List (Addr × Obj)} {σ : St} {H : Hp} {s : Shared} {M : Model} {A : Around} {E : Value → Shared → Prop} {Q : Unit → Shared → Prop} {i : Nat} {n : Str} {pos : Pos} (I : Inv X pins σ H s) (hN : X.N.Nodup) (hi : X.N[i]? = some n) (hl : X.env.scope.names.lookup n = some .local)
    (h : ∀ s', Inv X pins (σ.set i none) H s' → Q () s') : wpAny M A (do bindName X.env n .none; unbindBehindTheSuite X.env n pos) Q E s := by
  obtain ⟨m, hn, hlk⟩ := I.loc
  refine wpAny_nameGoes_keeps hl hn (by rw [I.ok.kind]; rfl) fun h' v hn' sb => h _ ?_
  have cellK : ∀ x c, X.env.cells.lookup x = some c → ∀ v, s.heap.IsCell c v → h'.IsCell c v := fun x c e v ⟨o, ho, hd⟩ => ⟨o, (sb.2 c (I.cne x c e)).trans ho, hd⟩
  refine ⟨I.ok, I.os, I.bare, I.base.same fun b o e => sb.2 b (Nat.ne_of_lt (Nat.lt_of_lt_of_le (Heap.lt_size e) I.ok.above)), ⟨_, hn', fun j y u e1 e2 e3 => ?_⟩, fun x c e => ?_, I.free, I.freeC, fun p hp => ?_, I.hok.but I.free sb, by rw [List.length_set]; exact I.len, Nat.le_succ_of_le I.up⟩
  · have ji : i ≠ j := fun z => by
      subst z
      rw [List.getElem?_set_self (by rw [I.len]; exact (List.getElem?_eq_some_iff.mp hi).1)] at e2
      cases e2
    rw [List.getElem?_set_ne ji] at e2
    obtain ⟨w, rv, l⟩ := hlk j y u e1 e2 e3
    refine ⟨w, rv, ?_⟩
    rcases l with ⟨k1, k2⟩ | ⟨k, c, e, z⟩
    · refine .inl ⟨k1, ?_⟩
      have ne : y ≠ n := fun z => ji (nodup_ix hN hi (z ▸ e1))
      show (if y = n then v else m y) = some w
      rw [if_neg ne]
      exact k2
    · exact .inr ⟨k, c, e, cellK y c e _ z⟩
  · obtain ⟨v, z⟩ := I.cell x c e
    exact ⟨v, cellK x c e v z⟩
  · obtain ⟨e, hh, ne, r⟩ := I.pin p hp
    exact ⟨(sb.2 _ ne).trans e, hh, ne, r⟩
def tAs (K : PySem.W.Frag) (C : Addr) (i : Nat) (ts : TS) (th : TH) : TH := fun cls od D σ H => ∃ Ce b, cls = .ref Ce ∧ PySem.W.subIn K (.ref Ce) (.ref C) = some b ∧
  if b = true then ∀ ea, H ea = none → ts (D.un i) (σ.set i (some (.ref ea))) (upd H ea (exO ea cls od)) else th cls od D σ H
theorem ph_as {X : Cx} {i : Nat} {n x : Str} {C : Addr} {b₀ : Stmt} {suite : List Stmt} {np pos : Pos} {rest : List ExceptHandler} {ts : TS} {th : TH} (hN : X.N.Nodup) (hi : X.N[i]? = some n) (hl : X.env.scope.names.lookup n = some .local) (hg : Gl X x) (hm : X.mg x = some (.ref C))
    (hbe : XB X.K C) (hsu : ∀ ea, PSs (X.within ea) (b₀ :: suite) ts) (hr : PH X rest th) (hdb : (x == ("__debug__" : Str)) = false := by decide) :
    PH X (.ExceptHandler (some (.Name x np)) (some n) (b₀ :: suite) pos :: rest) (tAs X.K C i ts th) := by
  intro pins s σ H D ea cls od I x h
  obtain ⟨Ce, b, rfl, hk, h⟩ := h
  obtain ⟨pe, vs, sl, he, hT⟩ := id x
  refine wpAny_handleBy_cons (codeAny_handlers_test (ld_glob (X := X.within ea) (I.within ea) hg hm ?_ hdb)) (by intro q; cases q)
  refine exc_match I.kIn he rfl hk hbe ?_
  cases b with
  | false => exact hr pins s σ H D ea _ od I x h
  | true =>
    refine codeAny_handlers_suite_as ?_
    refine flight_exc (fr := frs X.stack) x fun h1 n1 x1 => ?_
    have I1 := I.noted n1
    obtain ⟨pe1, vs1, sl1, he1, _⟩ := id x1
    have I2 : Inv X pins σ (upd H ea (exO ea (.ref Ce) od)) { s with heap := h1 } := I1.tracks pe1 ⟨⟨vs1, sl1, he1⟩, ⟨_, he1⟩, fun h1 h2 ⟨v, s', e⟩ k => ⟨v, s', k _ e⟩⟩
    refine store_ok (X := X.within ea) (I2.within ea) hN hi (.inl hl) (v := .ref ea) rfl (fun s2 I3 => ?_) (.inr hl)
    have z := hsu ea pins s2 _ _ (D.un i) I3 (h ea pe1.1)
    refine wpAny_mono z (fun f s3 q => ?_) fun _ _ z => False.elim z
    cases f with
    | next =>
      obtain ⟨σ', H', J, q⟩ := q
      exact name_goes (J.behind I.ok) hN hi hl fun s4 J4 => ⟨_, _, J4, q⟩
    | brk =>
      obtain ⟨σ', H', J, q⟩ := q
      exact name_goes (J.behind I.ok) hN hi hl fun s4 J4 => ⟨_, _, J4, q⟩
    | cont =>
      obtain ⟨σ', H', J, q⟩ := q
      exact name_goes (J.behind I.ok) hN hi hl fun s4 J4 => ⟨_, _, J4, q⟩
    | ret u =>
      obtain ⟨v, σ', H', J, rv, q⟩ := q
      exact name_goes (J.behind I.ok) hN hi hl fun s4 J4 => ⟨v, _, _, J4, rv, q⟩
theorem ph_nil {X : Cx} : PH X [] fun _ _ _ _ _ => False := fun _ _ _ _ _ _ _ _ _ _ h => False.elim h
/-! ### calls in a try -/
def tCallX (sp : Sp) (dvs : List V) (E : St → XK) (t : TA) : TE := fun σ H Q => t σ H fun vs H1 => sp (vs ++ dvs) H1 Q (E σ)
def tMakeX (C : Addr) (sp : Sp) (dvs : List V) (E : St → XK) (t : TA) : TE := fun σ H Q => t σ H fun vs H1 => ∀ x dx, H1 x = none → H1 dx = none → dx ≠ x →
  sp (.ref x :: (vs ++ dvs)) (upd (upd H1 dx (.own x)) x (.ins C dx [])) (fun v H2 => v = .non ∧ Q (.ref x) H2) (E σ)
section
variable {X : Cx} {k : Nat} {f C : Addr} {fd : FuncData} {ps : List Str} {sp : Sp} {dvs : List V} {ds : List Value} {E : St → XK} {x : Str} {p pos : Pos} {e : Expr} {es : List Expr} {t : TA}
theorem pe_callX (F : FnOk X.prog X.w X.K X.mg X.base (CXs X.prog X.w) k f fd ps sp) (hr : Room k X.A) (hg : Gl X x) (hm : X.mg x = some (.ref f)) (hk : PySem.W.keepIn X.K (.ref f) = true) (hb : Binds X.K fd ps ds) (hd : Vals dvs ds) (LX : Lets X E)
    (ha : PA X (e :: es) t) (hdb : (x == ("__debug__" : Str)) = false := by decide) (he : starEach (e :: es) X.env = (false, eval e X.env) :: starEach es X.env := by rfl) (hpl : (backTo pos (starEach es X.env)).any (·.1) = false := by rfl) :
    PE X (.Call (.Name x p) (e :: es) [] pos) (tCallX sp dvs E t) := by
  intro pins s σ H Q I h
  refine wpAny_Call_Name_kw (ld_glob I hg hm ?_ hdb)
  refine PySem.W.callWith_K (h₀ := X.base) I.ok.mod.kin hk (thn (ha pos pins s σ H _ I h) fun us s1 ⟨vs, H1, I1, r, q⟩ => ⟨I1.kIn, ?_⟩) he hpl
  have r2 : Vals (vs ++ dvs) (us ++ ds) := r.append hd
  have hl : (us ++ ds).length = ps.length := by rw [← r2.length]; exact F.len _ _ _ _ q
  refine wpAny_call (codeAny_mono (F.run X.A X.stack s1 H1 ⟨us, []⟩ (us ++ ds) (vs ++ dvs) Q (E σ) hr I1.env0 (hb s1 us I1.kIn hl) r2 q) fun rr s' hq => ?_)
  cases rr with
  | error e => exact LX.pass I1 hq
  | ok fl =>
    cases fl with
    | ret u => exact I1.after hq
    | next => exact False.elim hq
    | brk => exact False.elim hq
    | cont => exact False.elim hq
theorem pe_makeX (M : Mk X.K C f) (F : FnOk X.prog X.w X.K X.mg X.base (CXs X.prog X.w) k f fd ps sp) (hr : Room (k + 1) X.A) (hg : Gl X x) (hm : X.mg x = some (.ref C)) (hb : Binds X.K fd ps ds) (hd : Vals dvs ds) (LX : Lets X E)
    (ha : PA X (e :: es) t) (hdb : (x == ("__debug__" : Str)) = false := by decide) (he : starEach (e :: es) X.env = (false, eval e X.env) :: starEach es X.env := by rfl) (hpl : (backTo pos (starEach es X.env)).any (·.1) = false := by rfl) :
    PE X (.Call (.Name x p) (e :: es) [] pos) (tMakeX C sp dvs E t) := by
  intro pins s σ H Q I h
  refine wpAny_Call_Name_kw (ld_glob I hg hm ?_ hdb)
  refine PySem.W.callWith_K (h₀ := X.base) I.ok.mod.kin M.kp (thn (ha pos pins s σ H _ I h) fun us s1 ⟨vs, H1, I1, r, q⟩ => ⟨I1.kIn, ?_⟩) he hpl
  have hq := q (s1.heap.objs.size + 1) s1.heap.objs.size (I1.hok.fresh (Nat.le_succ _)) (I1.hok.fresh (Nat.le_refl _)) (Nat.ne_of_lt (Nat.lt_succ_self _))
  have I2 := Inv.made (C := C) I1
  have r2 : Vals (V.ref (s1.heap.objs.size + 1) :: (vs ++ dvs)) (Value.ref (s1.heap.objs.size + 1) :: (us ++ ds)) := .cons rfl (r.append hd)
  have hl : (Value.ref (s1.heap.objs.size + 1) :: us ++ ds).length = ps.length := by
    have z := r2.length
    rw [F.len _ _ _ _ hq] at z
    exact z.symm
  refine wpAny_call (make_map (f := f) I1.kIn M.makes M.init (beq_iff_eq.mp M.fn) (codeAny_mono (F.run _ X.stack _ _ ⟨Value.ref (s1.heap.objs.size + 1) :: us, []⟩ (Value.ref (s1.heap.objs.size + 1) :: (us ++ ds)) _ _ (E σ) (hr.make C us [])
    (I2.env0.make C us []) (hb _ (Value.ref (s1.heap.objs.size + 1) :: us) I2.kIn hl) r2 hq) fun rr s' hq' => ?_))
  cases rr with
  | error e => exact LX.pass I2 hq'
  | ok fl =>
    cases fl with
    | ret u =>
      obtain ⟨v, H', I3, rv, ev, q3⟩ := I2.after hq'
      subst ev
      exact ⟨rv, ⟨V.ref (s1.heap.objs.size + 1), H', I3, rfl, q3⟩⟩
    | next => exact False.elim hq'
    | brk => exact False.elim hq'
    | cont => exact False.elim hq'
end
end L2

namespace L2
open PySem PySem.Spec PyProof.Rows
end L2

namespace L2
open PySem PySem.Spec PyProof.Rows
section
variable {X : Cx}
abbrev TJ := St → Hp → Str → (Str → Hp → Prop) → Prop
def PJ (X : Cx) (es : List Expr) (tj : TJ) : Prop := ∀ (pins : List (Addr × Obj)) (s : Shared) (σ : St) (H : Hp) (acc : Str) (R : Str → Hp → Prop), Inv X pins σ H s → tj σ H acc R →
  Joins (model X.prog X.w) X.A X.xe (evalEach es X.env) acc (fun out s1 => out.length ≤ sizeLine ∧ ∃ H1, Inv X pins σ H1 s1 ∧ R out H1) s
theorem pj_nil : PJ X [] (fun _ H acc R => acc.length ≤ sizeLine ∧ R acc H) := fun _ _ _ H _ _ I h => ⟨h.1, H, I, h.2⟩
theorem pj_cons {e : Expr} {es : List Expr} {te : TE} {tj : TJ} (he : PE X e te) (hr : PJ X es tj) (hx : evalEach (e :: es) X.env = eval e X.env :: evalEach es X.env := by rfl) :
    PJ X (e :: es) (fun σ H acc R => te σ H fun v H1 => ∃ y, v = .str y ∧ (acc ++ y).length ≤ sizeLine ∧ tj σ H1 (acc ++ y) R) := by
  intro pins s σ H acc R I h
  rw [hx]
  refine thn (he pins s σ H _ I h) fun u s1 ⟨v, H1, I1, r, y, e1, hl, q⟩ => ?_
  subst e1
  obtain ⟨t, rfl⟩ := r
  exact ⟨y, t, rfl, hl, hr pins s1 σ H1 _ R I1 q⟩
theorem joins_imp {M : Model} {A : Around} {E : Value → Shared → Prop} : ∀ {parts : List (Sem Value)} {acc : Str} {Q Q' : Str → Shared → Prop} {s : Shared}, Joins M A E parts acc Q s → (∀ out s1, Q out s1 → Q' out s1) → Joins M A E parts acc Q' s
  | [], _, _, _, _, h, k => k _ _ h
  | _ :: _, _, _, _, _, h, k => thn h fun _ _ ⟨y, t, e, hl, q⟩ => ⟨y, t, e, hl, joins_imp q k⟩
theorem pe_join {v₁ v₂ : Expr} {rest : List Expr} {pos : Pos} {tj : TJ} (h : PJ X (v₁ :: v₂ :: rest) tj) : PE X (.JoinedStr (v₁ :: v₂ :: rest) pos) (fun σ H Q => tj σ H Str.empty fun out H1 => Q (.str out) H1) := by
  intro pins s σ H Q I q
  refine wpAny_JoinedStr (joins_imp (h pins s σ H Str.empty _ I q) fun out s1 ⟨hl, H1, I1, q1⟩ => ⟨hl, .str out, H1, I1.tok _, ⟨_, rfl⟩, q1⟩)
theorem pe_fmt {value : Expr} {pos : Pos} {te : TE} (he : PE X value te) : PE X (.FormattedValue value (-1) none pos) (fun σ H Q => te σ H fun v H1 => ∃ i : Int, v = .int i ∧ i.natAbs.log2 < 1920 ∧ Q (.str (Str.ofString (toString i))) H1) := by
  intro pins s σ H Q I h
  refine wpAny_FormattedValue_plain (thn (he pins s σ H _ I h) fun u s1 ⟨v, H1, I1, r, i, e, hl, q⟩ => ?_)
  subst e
  obtain ⟨t, rfl⟩ := r
  exact wpAny_formatField_int hl ⟨.str (Str.ofString (toString i)), H1, I1.tok _ (by show s1.toks ≤ _; omega), ⟨_, rfl⟩, q⟩
end
/-! ### isinstance of a caught exception -/
structure XTy (K : PySem.W.Frag) (C : Addr) : Prop where
  ga : PySem.W.findIn K (.ref C) "__getattribute__" = some (some (.builtin "BaseException.__getattribute__"))
  gn : PySem.W.findIn K (.ref C) "__getattr__" = some none
  hd : PySem.W.hasDictIn K C = true
  ha : PySem.W.findIn K (.ref C) "__class__" = some (some (.builtin "object.__class__"))
  hn : PySem.W.specialIn K (.builtin "object.__class__") "__get__" = some (some (.builtin "getset_descriptor.__get__"))
  htk : PySem.W.takesIn K (.builtin "object.__class__") = some true
  hm : PySem.W.mroIn K C (.type "object") = some true
  hb : PySem.W.mroIn K C (.type "BaseException") = some true
theorem exc_class {prog : Program} {w : World} {A : Around} {E : Value → Shared → Prop} {s : Shared} {K : PySem.W.Frag} {x C : Addr} {ox : Obj} {od : Option Obj} {Q : Option Value → Shared → Prop} (Z : XTy K C) (k : K.In s.heap) (I : PySem.W.InstAt s.heap x ox C od)
    (h : Q (some (.ref C)) { s with toks := s.toks + 1 }) : wpAny (model prog w) A (getAttr? (.ref x) "__class__") Q E s := by
  obtain ⟨hh, g, d, t, os⟩ := s
  have L0 := I.type (M := model prog w)
  have L1 := PySem.W.looks_findIn (M := model prog w) k Z.ga
  have L2 := PySem.W.looks_findIn (M := model prog w) k Z.gn
  have LB := PySem.W.looks_mroIn (M := model prog w) k Z.hb
  have hf : PySem.W.findObj K C od "__class__" = some (.bind (.builtin "getset_descriptor.__get__") (.builtin "object.__class__")) := by
    obtain ⟨cd, hc, _⟩ := PySem.W.any_some Z.hd
    unfold PySem.W.findObj
    rw [hc, Option.bind_some, Z.ha, Option.bind_some]
    simp [Z.hn, Z.htk]
  have LF := PySem.W.looks_find (M := model prog w) k I hf
  unfold getAttr? getAttrBy? getAttrBy
  refine wpAny_bind (wpAny_mkText (wpAny_bind (wpAny_attempt (wpAny_holding (wpAny_bind (L0.at (wpAny_bind (L1.at ?_))))))))
  show wpAny _ _ (getAttrByItsOwn _ _ _ _ _ _) _ _ _
  unfold getAttrByItsOwn hookBefore
  refine wpAny_bind (L2.at ?_)
  refine wpAny_bind (wpAny_attempt (wpAny_holding ?_))
  show wpAny _ _ (boundAndCalled _ _ _) _ _ _
  unfold boundAndCalled
  refine wpAny_bind (wpAny_of_eq (PySem.F.attr_ValueError.ga.bind (.ref x)) ?_)
  show wpAny _ _ (call (.builtin "BaseException.__getattribute__") [.ref x, .str "__class__" t]) _ _ _
  refine wpAny_call (codeAny_call_builtin PySem.F.attr_ValueError.ga.plain PySem.F.entry_bexc_ga ?_)
  have c1 : builtinKind "BaseException.__getattribute__" = some .slot := by decide +kernel
  have c2 : splitId "BaseException.__getattribute__" = some ("BaseException", "__getattribute__") := by decide +kernel
  have c3 := PySem.F.args_bexc_ga (.ref x) (.str "__class__" t)
  simp only [checkBuiltinCall, c1, c2]
  refine wpAny_bind (wpAny_bind (L0.at (LB.at ?_)))
  simp only [Bool.not_true, Bool.false_eq_true, if_false]
  unfold argsOk at c3
  refine wpAny_of_eq c3 ?_
  unfold Builtin.«object.__getattribute__»
  refine wpAny_bind (wpAny_pure (wpAny_bind (wpAny_pure (wpAny_bind (L0.at (wpAny_bind (LF.at ?_)))))))
  show wpAny _ _ (holding [.builtin "object.__class__"] (call (.builtin "getset_descriptor.__get__") [.builtin "object.__class__", .ref x, .ref C]) >>= ret) _ _ _
  refine wpAny_bind (wpAny_holding (wpAny_call (PySem.W.class_get (ox := ox) (od := od) k I Z.hm ?_)))
  refine wpAny_pure ?_
  show wpAny _ _ (handedOut (.ref C)) _ _ _
  exact PySem.W.handed_on rfl (wpAny_pure h)
end L2
namespace L2
open PySem PySem.Spec PyProof.Rows
theorem kitx_exc {K : PySem.W.Frag} {x C : Addr} {ox : Obj} {od : Option Obj} (Z : XTy K C) : PySem.W.KitX K (.ref x) (.ref C) (fun h => PySem.W.InstAt h x ox C od) where
  ty := fun _ _ _ I => I.type
  it := fun _ _ k _ => by
    obtain ⟨cd, hcd, _⟩ := PySem.W.any_some Z.hd
    unfold PySem.W.clsIn at hcd
    split at hcd
    · rename_i c1 d1 cd1 sl1 hob
      intro A1 Q1 E1 s1 kk q
      unfold isType loadHead
      exact wpAny_bind (wpAny_loadPart (kk _ _ (k _ _ hob)) (wpAny_pure q))
    · cases hcd
  ne := fun h tp dd its n sl k htp => by
    obtain ⟨cd, hcd, _⟩ := PySem.W.any_some Z.hd
    refine Bool.eq_false_iff.mpr fun q => ?_
    have e := Value.ref.inj (beq_iff_eq.mp q)
    subst e
    unfold PySem.W.clsIn at hcd
    split at hcd
    · rename_i c1 d1 cd1 sl1 hob
      have z := (k _ _ hob).symm.trans htp
      cases z
    · cases hcd
  ca := fun k I q => exc_class Z k I q
end L2

namespace GP
open PySem L2 GwM
end GP

namespace L2
open PySem PySem.Spec PyProof.Rows
/-! ### a slice of a text -/
theorem sl_str {X : Cx} : SlR X (fun x lo hi H Q => ∃ y, x = .str y ∧ y.length ≤ sizeLine ∧ Q (.str (Txt.slice y lo hi)) H) := by
  intro pins s σ H x v vl vu lo hi sl Q I rx hs pl pu h
  obtain ⟨y, rfl, hz, q⟩ := h
  obtain ⟨t, rfl⟩ := rx
  refine ⟨"str", _, PySem.F.slot_str_getitem.lookup, typeIs_str _ _ _, ?_⟩
  have fin : (Txt.slice y lo hi).length ≤ sizeLine ∧ ∀ t' k, s.toks ≤ k → EP X pins σ Q (.str (Txt.slice y lo hi) t') { s with toks := k } := ⟨Nat.le_trans (Txt.slice_le y _ _) hz, fun t' k hk => ⟨.str (Txt.slice y lo hi), H, I.tok k hk, ⟨_, rfl⟩, q⟩⟩
  refine TK.wpAny_up (Nat.le_refl s.toks) ?_
  cases pl with
  | none =>
    cases pu with
    | none => exact wpAny_getItem_str_slice (l := none) (u := none) (st := none) hs rfl (post_val_or_str fin)
    | int j u => exact wpAny_getItem_str_slice (l := none) (u := some (j, u)) (st := none) hs rfl (post_val_or_str fin)
  | int i u =>
    cases pu with
    | none => exact wpAny_getItem_str_slice (l := some (i, u)) (u := none) (st := none) hs rfl (post_val_or_str fin)
    | int j u' => exact wpAny_getItem_str_slice (l := some (i, u)) (u := some (j, u')) (st := none) hs rfl (post_val_or_str fin)
end L2
namespace GP
open PySem L2 GwM
end GP

namespace L2
open PySem PySem.Spec PyProof.Rows
section
variable {prog : Program} {w : World} {A : Around} {E : Value → Shared → Prop} {h : Heap} {gs : Array GenState} {dr : Drawn} {tk : Nat} {os : OsState}
variable {nm qn : Str} {C N : Addr} {bs tl bmB bmN : List Value} {hdct : Bool} {sn : List Str} {sub : List Value} {ab : Bool} {col : Option Bool} {dd : Option Addr} {k0 k1 k2 k3 k5 : Option Value} {B Bn newId nid initId inN : String}
theorem type_call_init {mN : Str → Option Value} {rest : List Value} {fI : Addr} {oI : Obj} {Q : Fin → Shared → Prop} (Fn : ExcBaseFacts Bn newId inN bmN) (hBn : bmB.contains (.type Bn) = true) (FB : ExcBaseFacts B nid initId bmB) (T : OwnTail h bmB tl)
    (hob : h.get? C = some (excClassObj nm qn C N bs tl hdct sn sub ab col dd k0 k1 k2 k3 k5 newId)) (hns : h.Ns N mN) (hini : mN "__init__" = some (.ref fI)) (hfo : h.get? fI = some oI) (hfc : oI.cls = .type "function")
    (hq : ∀ h' e, Heap.MadeExcOf h h' e (.ref C) rest → wpAny (model prog w) A (call (.ref fI) (.ref e :: rest)) (fun r s' => r = .none ∧ Q (.done (.ret (.ref e))) s') E ⟨h', gs, dr, tk, os⟩) (hz : rest.length ≤ sizeLine) :
    wpAny (model prog w) A (Builtin.«type.__call__» ⟨.ref C :: rest, []⟩) Q E ⟨h, gs, dr, tk, os⟩ := by
  repeat (first | with_reducible refine wpAny_loadPart_at hob ?_ | with_reducible refine wpAny_madeBy_exc hob ?_ | wp_step)
  refine codeAny_call_builtin_code (Code.quiet_builtin _ Fn.quiet) (wpAny_check_new_subU Fn hBn T hob ?_)
  refine codeAny_exc_new_subU Fn hBn FB T hob ?_ hz
  show wpAny _ _ _ _ _ _
  have kp : ∀ b o, h.get? b = some o → ((h.push { cls := .type "tuple", data := .seq rest.toArray }).push { cls := .ref C, data := .fields #[.ref h.objs.size, .none, .none, .none, .bool false, .none] }).get? b = some o := fun b o e => Heap.get?_push_of_some _ (Heap.get?_push_of_some _ e)
  have hob1 := kp _ _ hob
  have hfo1 := kp _ _ hfo
  have hns1 := hns.keeps kp
  have T1 := T.keeps kp
  have hget1 : ((h.push { cls := .type "tuple", data := .seq rest.toArray }).push { cls := .ref C, data := .fields #[.ref h.objs.size, .none, .none, .none, .bool false, .none] }).get? (h.objs.size + 1) = some { cls := .ref C, data := .fields #[.ref h.objs.size, .none, .none, .none, .bool false, .none] } := by heap_get
  have hself : (Value.ref C :: tl).contains (.ref C) = true := by simp
  unfold isInstance
  repeat (first | with_reducible refine wpAny_loadPart_at hget1 ?_ | (with_reducible refine wpAny_isSubtype_exc hob1 ?_; rw [hself]) | wp_step)
  show wpAny _ _ (typeLookup (.ref C) _) _ _ _
  refine wpAny_typeLookup_tail hob1 hns1 T1 FB.mroIs FB.init.lookup ?_
  rw [hini]
  refine wpAny_holding (wpAny_bind ?_)
  unfold bindSpecial
  refine wpAny_bind (wpAny_typeOf (T := "function") ⟨_, hfo1, hfc⟩ ?_)
  rw [if_pos (by decide)]
  have made : Heap.MadeExcOf h ((h.push { cls := .type "tuple", data := .seq rest.toArray }).push { cls := .ref C, data := .fields #[.ref h.objs.size, .none, .none, .none, .bool false, .none] }) (h.objs.size + 1) (.ref C) rest :=
    ⟨kp, Heap.get?_none_of_le (Nat.le_succ _), h.objs.size, hget1, Heap.get?_none_of_le (Nat.le_refl _), Heap.get?_push_of_some _ (Heap.get?_push_at rfl rfl)⟩
  refine wpAny_pure (wpAny_bind (wpAny_mono (hq _ _ made) (fun r s' hr => ?_) fun _ _ x => x))
  obtain ⟨rfl, hQ⟩ := hr
  wp_walk
  exact hQ
theorem call_init {mN : Str → Option Value} {rest : List Value} {fI : Addr} {oI : Obj} {Q : Value → Shared → Prop} (Fn : ExcBaseFacts Bn newId inN bmN) (hBn : bmB.contains (.type Bn) = true) (FB : ExcBaseFacts B nid initId bmB) (T : OwnTail h bmB tl)
    (hob : h.get? C = some (excClassObj nm qn C N bs tl hdct sn sub ab col dd k0 k1 k2 k3 k5 newId)) (hns : h.Ns N mN) (hini : mN "__init__" = some (.ref fI)) (hfo : h.get? fI = some oI) (hfc : oI.cls = .type "function")
    (hq : ∀ h' e, Heap.MadeExcOf h h' e (.ref C) rest → wpAny (model prog w) (A.under (.builtin "type.__call__" ⟨.ref C :: rest, []⟩)) (call (.ref fI) (.ref e :: rest)) (fun r s' => r = .none ∧ Q (.ref e) s') E ⟨h', gs, dr, tk, os⟩) (hz : rest.length ≤ sizeLine) :
    wpAny (model prog w) A (call (.ref C) rest) Q E ⟨h, gs, dr, tk, os⟩ := by
  have l1 := tc_lookup
  have l2 := tc_bind (.ref C)
  have hTy : (⟨h, gs, dr, tk, os⟩ : Shared).TypeIs (.ref C) "type" := ⟨_, hob, rfl⟩
  refine wpAny_call (codeAny_of_tree ?_)
  show wpAny _ _ (callAny (.ref C) _) _ _ _
  repeat (any_goals (first | assumption | with_reducible refine wpAny_loadPart_at hob ?_ | wp_step))
  refine ⟨rfl, codeAny_call_builtin_at (Code.quiet_builtin _ (by decide +kernel)) entry_typeCall (wpAny_check_type_call_sub hob (type_call_init Fn hBn FB T hob hns hini hfo hfc (fun h' e hm => ?_) hz))⟩
  exact hq h' e hm
end
end L2

namespace L2
open PySem PySem.Spec PyProof.Rows
/-! ### own exceptions with an __init__ and attributes of their own -/
def newX (e C : Addr) (od : Option Addr) : HO := .ext fun h => ∃ vs sl, h.get? e = some ⟨.ref C, od, .fields vs, sl⟩ ∧ vs[1]? = some .none
def xdO (dx : Addr) (fs : List (Str × V)) : HO := .ext fun h => ∃ mA, h.Ns1 dx mA ∧ (∀ f, RelO (fs.lookup f) (mA f)) ∧ PySem.Within mA (fs.map (·.1))
section
variable {P : Program} {w : World} {H : Hp} {h : Heap}
theorem newX_ok {e C : Addr} {od : Option Addr} {vs : Array Value} {sl : Array (Option Value)} (he : h.get? e = some ⟨.ref C, od, .fields vs, sl⟩) (h1 : vs[1]? = some .none) : ObjOk P w H h e (newX e C od) :=
  ⟨⟨vs, sl, he, h1⟩, ⟨_, he⟩, fun _ _ ⟨v, s, e, z⟩ k => ⟨v, s, k _ e, z⟩⟩
theorem xdO_ok {dx : Addr} {fs : List (Str × V)} {mA : Str → Option Value} (n : h.Ns1 dx mA) (r : ∀ f, RelO (fs.lookup f) (mA f)) (wi : PySem.Within mA (fs.map (·.1))) : ObjOk P w H h dx (xdO dx fs) :=
  ⟨⟨mA, n, r, wi⟩, (let ⟨o, _, _, e, _⟩ := n; ⟨o, e⟩), fun _ _ ⟨m, n, r, wi⟩ k => ⟨m, n.at k, r, wi⟩⟩
end
def del (H : Hp) (e : Addr) : Hp := fun b => if b = e then none else H b
theorem del_ne {H : Hp} {e b : Addr} (h : b ≠ e) : del H e b = H b := by unfold del; rw [if_neg h]
theorem del_same {H : Hp} {e : Addr} : del H e e = none := by unfold del; rw [if_pos rfl]
theorem del_none {H : Hp} {e b : Addr} (h : H b = none) : del H e b = none := by unfold del; split <;> first | rfl | exact h
theorem upd_eq {H : Hp} {a : Addr} {o : HO} (h : H a = some o) : upd H a o = H := by
  funext b
  unfold upd
  split
  · rename_i z; rw [z, h]
  · rfl
section
variable {X : Cx} {pins : List (Addr × Obj)} {σ : St} {H : Hp} {s : Shared}
theorem Inv.drop {e : Addr} {φ : Heap → Prop} (I : Inv X pins σ H s) (he : H e = some (.ext φ)) : Inv X pins σ (del H e) s := by
  have ne : ∀ {b : Addr} {o : HO}, H b = some o → (∀ ψ, o ≠ .ext ψ) → b ≠ e := fun {b o} hb n z => by
    subst z
    rw [he] at hb
    exact n _ (Option.some.inj hb).symm
  refine ⟨I.ok, I.os, I.bare, ⟨I.base.keep, I.base.slot, fun b ob q n hx => del_none (I.base.free b ob q n hx), I.base.there, fun b xs q => ?_, fun b ob u q => ?_, fun b ps q => ?_⟩, I.loc, I.cell, del_none I.free, fun x c q => del_none (I.freeC x c q), fun p hp => ?_, fun b u q => ?_, I.len, I.up⟩
  · have q' := I.base.tups b xs q
    rw [del_ne (ne q' fun ψ z => by cases z)]; exact q'
  · have q' := I.base.frzs b ob u q
    rw [del_ne (ne q' fun ψ z => by cases z)]; exact q'
  · obtain ⟨more, q'⟩ := I.base.tbls b ps q
    exact ⟨more, by rw [del_ne (ne q' fun ψ z => by cases z)]; exact q'⟩
  · obtain ⟨a, n, r⟩ := I.pin p hp
    exact ⟨a, del_none n, r⟩
  · have hb : b ≠ e := fun z => by rw [z, del_same] at q; cases q
    rw [del_ne hb] at q
    exact (I.hok b u q).stay (fun c v _ r => r) (fun c r => by rw [del_ne (ne r fun ψ z => by cases z)]; exact r) fun c xs r => by rw [del_ne (ne r fun ψ z => by cases z)]; exact r
end
section
variable {M : Model} {A : Around} {E : Value → Shared → Prop} {env : Env}
variable {nm q : Str} {C N : Addr} {bs bm : List Value} {hdct : Bool} {sn : List Str} {sub : List Value} {ab : Bool} {col : Option Bool} {dd : Option Addr} {k0 k1 k2 k3 k5 : Option Value} {newId : String}
theorem raise_made {s : Shared} {x : Sem Value} {Q : Flow → Shared → Prop} (hbase : bm.contains (.type "BaseException") = true) (hh : A.handled = none)
    (h : wpAny M A x (fun v s₁ => ∃ e od vs sl, v = .ref e ∧ s₁.heap.get? C = some (excClassObj nm q C N bs bm hdct sn sub ab col dd k0 k1 k2 k3 k5 newId) ∧
      s₁.heap.get? e = some ⟨.ref C, od, .fields vs, sl⟩ ∧ vs[1]? = some .none ∧ E (.ref e) s₁) E s) : wpAny M A (raiseStmt env (some x) none) Q E s := by
  have hcB : (Value.ref C :: bm).contains (.type "BaseException") = true := by rw [List.contains_cons, hbase, Bool.or_true]
  unfold raiseStmt
  refine wpAny_bind (wpAny_mono h (fun v s₁ h₁ => ?_) fun _ _ x => x)
  obtain ⟨e, od, vs, sl, rfl, hC, he, hv, hE⟩ := h₁
  obtain ⟨hp, g, d, tk, os⟩ := s₁
  repeat (first | with_reducible refine wpAny_loadPart_at he ?_ | with_reducible refine wpAny_loadPart_at hC ?_ | (with_reducible refine wpAny_isSubtype_exc hC ?_; rw [hcB]) | wp_step)
  rw [hv]
  refine wpAny_pure ?_
  rw [if_neg (by decide)]
  exact wpAny_pure (wpAny_raiseNew_none hh hE)
end
/-! ### what is known of the classes -/
def veMro : List Value := [.type "ValueError", .type "Exception", .type "BaseException", .type "object"]
structure XClsI (K : PySem.W.Frag) (C fI : Addr) : Prop where
  obj : ∀ h : Heap, K.In h → ∃ d : XP, h.get? C = some (d.obj C "ValueError.__new__") ∧ h.Ns d.N d.mN ∧ d.mN "__init__" = some (.ref fI) ∧ OwnTail h veMro d.bm
def excInI (K : PySem.W.Frag) (C fI : Addr) : Bool := match K.lookup C with
  | some ⟨.type "type", _, .cls cd, sl⟩ => (match cd.mro, sl.toList with
    | .ref C' :: bm, [_, _, _, _, some (.builtin n), _] => C' == C && n == "ValueError.__new__" && !cd.hasDel && PySem.W.tailIn K veMro bm && PySem.W.nsOkIn K cd.ns && PySem.W.nsIn K cd.ns "__init__" == some (some (.ref fI))
    | _, _ => false)
  | _ => false
theorem ns_some_of {K : PySem.W.Frag} {h : Heap} {N : Addr} {mg : Str → Option Value} {n : Str} {v : Value} (X : K.In h) (G : h.Ns N mg) (e : PySem.W.nsIn K N n = some (some v)) : mg n = some v := by
  obtain ⟨o, es, ep, ho, hd, _, hf⟩ := G
  unfold PySem.W.nsIn at e
  split at e
  · rename_i c d es' n' sl q
    have := X _ _ q
    rw [ho] at this
    cases this
    cases hd
    split at e
    · rename_i he
      cases e
      rw [← hf]
      unfold nsFind findBy
      rw [← Array.find?_toList, he]
      rfl
    · split at e
      · cases e
      · cases e
  · cases e
theorem xclsI_of {K : PySem.W.Frag} {C fI : Addr} (q : excInI K C fI = true) : XClsI K C fI := by
  refine ⟨fun h k => ?_⟩
  unfold excInI at q
  split at q
  · rename_i dd cd sl hob
    split at q
    · rename_i C' bm k0 k1 k2 k3 nn k5 hmr hsl0
      simp only [Bool.and_eq_true, beq_iff_eq, Bool.not_eq_true'] at q
      obtain ⟨⟨⟨⟨⟨e1, e2⟩, e3⟩, e4⟩, e5⟩, e6⟩ := q
      subst e1 e2
      obtain ⟨nm, bs, mro, ns, qn, hd, sn, sub, ab, col, del⟩ := cd
      dsimp only at hmr e3 e5 e6
      subst hmr e3
      have hsl : sl = #[k0, k1, k2, k3, some (.builtin "ValueError.__new__"), k5] := by
        obtain ⟨l⟩ := sl
        simp only at hsl0
        rw [hsl0]
      subst hsl
      have G : h.Ns ns _ := .of_isNs (PySem.W.isNs_of_in k e5)
      exact ⟨⟨nm, qn, ns, bs, bm, hd, sn, sub, ab, col, dd, k0, k1, k2, k3, k5, _⟩, k _ _ hob, G, ns_some_of k G e6, PySem.W.tail_of_in k e4⟩
    · cases q
  · cases q
structure XBase (K : PySem.W.Frag) (W : Addr) : Prop where
  ga : PySem.W.specialIn K (.ref W) "__getattribute__" = some (some (.builtin "type.__getattribute__"))
  rd : PySem.W.readsIn K W (.type "type") = true
  fd : PySem.W.findCls K (.ref W) (.type "type") "__init__" = some (.val (.builtin "ValueError.__init__"))
def tailVE : List Value → Bool
  | [] => false
  | v :: r => (v :: r) == veMro || match v with | .ref _ => tailVE r | _ => false
structure XSt (K : PySem.W.Frag) (C : Addr) : Prop where
  hd : PySem.W.hasDictIn K C = true
  po : ((PySem.W.clsIn K C).any fun cd => tailVE cd.mro) = true
  sa : PySem.W.findIn K (.ref C) "__setattr__" = some (some (.builtin "object.__setattr__"))
theorem refuse_ve (self : Value) : ∀ {l : List Value}, tailVE l = true → refuseLoop self "__setattr__" l = pure ()
  | [], e => by cases e
  | v :: r, e => by
    unfold tailVE at e
    rcases Bool.or_eq_true_iff.mp e with q | q
    · rw [beq_iff_eq.mp q]; exact PySem.F.store_ValueError.passes self
    · split at q
      · rw [refuseLoop_ref]; exact refuse_ve self q
      · cases q
theorem ve_has : ∀ {l : List Value}, tailVE l = true → l.contains (.type "object") = true
  | [], e => by cases e
  | v :: r, e => by
    unfold tailVE at e
    rcases Bool.or_eq_true_iff.mp e with q | q
    · rw [beq_iff_eq.mp q]; decide +kernel
    · split at q
      · rw [List.contains_cons, ve_has q, Bool.or_true]
      · cases q
end L2

namespace L2
open PySem PySem.Spec PyProof.Rows
/-! ### Base.__init__(self, text) -/
def tBase (K : PySem.W.Frag) (t : TA) : TE := fun σ H Q => t σ H fun vs H1 => ∃ e C fI od y, vs = [.ref e, y] ∧ H1 e = some (newX e C od) ∧ XClsI K C fI ∧ Q .non H1
theorem pe_base {X : Cx} {x : Str} {W : Addr} {np apos cpos : Pos} {a b : Expr} {t : TA} {pl : Sem Bool} (hW : XBase X.K W) (hg : Gl X x) (hm : X.mg x = some (.ref W)) (ha : PA X [a, b] t) (hdb : (x == ("__debug__" : Str)) = false := by decide)
    (hev : eval (.Call (.Attribute (.Name x np) "__init__" apos) [a, b] [] cpos) X.env = (do
      let ov ← eval (.Name x np) X.env
      standAt apos.atName
      let (f, first) ← holding [ov] (getMethod ov "__init__" pl)
      callWith cpos f first (backTo cpos (starEach [a, b] X.env)) (backToKw cpos (keywordEach [] X.env))) := by rfl)
    (hs : starEach [a, b] X.env = (false, eval a X.env) :: starEach [b] X.env := by rfl) (hpl : (backTo cpos (starEach [b] X.env)).any (·.1) = false := by rfl) :
    PE X (.Call (.Attribute (.Name x np) "__init__" apos) [a, b] [] cpos) (tBase X.K t) := by
  intro pins s σ H Q I h
  refine PySem.W.methodCall_KW (pl := pl) (ld_glob I hg hm ?_ hdb) hev
  refine PySem.W.method_cls I.kIn hW.ga (PySem.W.cls_value I.kIn hW.rd hW.fd (by decide +kernel) ?_)
  have hA := ha cpos pins { s with toks := s.toks + 1 } σ H _ (I.tok _) h
  rw [hs] at hA ⊢
  refine Calls.callWith_builtin (by show (false || (backTo cpos (starEach [b] X.env)).any (·.1)) = false; rw [hpl] <;> rfl) (Calls.evalArgs_plain ?_)
  refine thn hA fun us s2 ⟨vs, H2, I2, r2, e, C, fI, od, y, e1, hx, O, q⟩ => ?_
  subst e1
  obtain ⟨u1, u2, rfl, ru1, _⟩ := vals2 r2
  cases (show u1 = Value.ref e from ru1)
  obtain ⟨⟨vs, sl, he, h1⟩, _, _⟩ := (show ObjOk X.prog X.w H2 s2.heap e (newX e C od) from I2.hok e _ hx)
  obtain ⟨d, hC, hN, hni, T⟩ := O.obj s2.heap I2.kIn
  have F := PySem.F.excBase_ValueError
  have I2' := I2
  obtain ⟨hh, gs, dr, tk, os⟩ := s2
  show wpAny _ _ (call (.builtin "ValueError.__init__") [.ref e, u2]) _ _ _
  refine wpAny_call (codeAny_call_builtin F.init.plain F.initEntry (wpAny_check_init_subU F T hC he rfl ?_))
  have hv : 0 < vs.size := Nat.lt_of_le_of_lt (Nat.zero_le 1) (Array.getElem?_eq_some_iff.mp h1).1
  have hv0 : vs[0]? = some vs[0] := Array.getElem?_eq_getElem hv
  wp_walk
  rw [hv0]
  refine wpAny_pure ?_
  have hg : (hh.push { cls := .type "tuple", data := .seq #[u2] }).get? e = some ⟨.ref C, od, .fields vs, sl⟩ := Heap.get?_push_of_some _ he
  refine wpAny_bind (wpAny_setField hg rfl hv ?_)
  have hu := Heap.get?_update_self (Obj.mapFields (·.setIfInBounds 0 (Value.ref hh.objs.size))) hg rfl
  have fin : EP X pins σ Q Value.none ⟨(hh.push { cls := .type "tuple", data := .seq #[u2] }).update e (Obj.mapFields (·.setIfInBounds 0 (Value.ref hh.objs.size))), gs, dr, tk, os⟩ := by
    refine ⟨.non, H2, ?_, rfl, q⟩
    have J1 := I2'.kept (h' := hh.push { cls := .type "tuple", data := .seq #[u2] }) (t' := tk) fun b u z => Heap.get?_push_of_some _ z
    have J2 := J1.write (x := e) (e := e) (o := newX e C od) (t' := tk) (by rw [hx]; exact True.intro) (.inl rfl) (fun b u hb z => (Heap.get?_update_other _ _ (Ne.symm hb)).trans z) ⟨_, hu⟩ (newX_ok hu (by simp [h1]))
    rw [upd_eq hx] at J2
    exact J2
  cases hq : vs[0] with
  | ref t0 => exact wpAny_letGo (wpAny_pure fin)
  | _ => exact wpAny_pure (wpAny_pure fin)
end L2

namespace L2
open PySem PySem.Spec PyProof.Rows
section
variable {prog : Program} {w : World} {A : Around} {E : Value → Shared → Prop} {s : Shared} {K : PySem.W.Frag} {x dx C : Addr} {name : Str} {v : Value} {R : Result → Shared → Prop}
theorem osa_exc {ox : Obj} {od : Option Obj} {tk : Tok} (X : K.In s.heap) (I : PySem.W.InstAt s.heap x ox C od) (S : XSt K C) (ht : PySem.W.takerIn K C name = some none)
    (h : ∀ b, wpAny (model prog w) A.in1 (Builtin.ObjectAttr.storeInOwnDict (.ref x) (.ref C) (.str name tk) name v b)
      (fun fin s' => match fin with | .done f => R (.ok f) s' | .again c' => c'.quiet = true ∧ codeAny (model prog w) A c' R s') (fun e s' => R (.error e) s') s) :
    codeAny (model prog w) A (.call (.builtin "object.__setattr__") ⟨[.ref x, .str name tk, v], []⟩) R s := by
  have SF := PySem.F.store_object
  obtain ⟨cd, hc, ho⟩ := PySem.W.any_some S.po
  have ne : cd.mro.isEmpty = false := by cases q : cd.mro with | nil => rw [q] at ho; cases ho | cons _ _ => rfl
  have sub : PySem.W.Looks (model prog w) s.heap (isInstance (.ref x) (.type "object")) true := I.type.andThen (PySem.W.looks_mroIn X (by unfold PySem.W.mroIn; rw [hc, Option.bind_some, if_neg (by rw [ne]; decide), ve_has ho]))
  refine codeAny_call_builtin SF.slot.plain SF.entry (@PySem.W.check_slot (model prog w) _ _ s "object.__setattr__" "object" "__setattr__" (.ref x) [.str name tk, v] [] _ SF.kind SF.split sub (SF.args (.ref x) (.str name tk) v) ?_)
  obtain ⟨attr, ha, hr⟩ := Option.bind_eq_some_iff.mp ht
  have hm : PySem.W.Looks (model prog w) s.heap (mroOf (.ref C)) cd.mro := (PySem.W.looks_clsIn X hc).andThen .now
  have L3 : PySem.W.Looks (model prog w) s.heap (Builtin.ObjectAttr.storeTaker? attr) none := by
    cases attr with
    | none => cases hr; exact .now
    | some a =>
      obtain ⟨b, hb, e⟩ := Option.map_eq_some_iff.mp hr
      refine (PySem.W.looks_takesIn X hb).andThen ?_
      cases b with
      | false => exact .now
      | true => cases e
  rw [PySem.W.osa_eq, refuse_eq]
  refine wpAny_bind (wpAny_bind (I.type.here (wpAny_bind (hm.here ?_))))
  rw [refuse_ve _ ho]
  refine wpAny_pure (wpAny_bind (I.type.here (wpAny_bind ((PySem.W.looks_findIn X ha).here (wpAny_bind (L3.here ?_))))))
  exact h _
theorem store_some {vs : Array Value} {sl : Array (Option Value)} {mA : Str → Option Value} {ns : List Str} {Q : Unit → Shared → Prop} (X : K.In s.heap) (S : XSt K C) (ht : PySem.W.takerIn K C name = some none)
    (he : s.heap.get? x = some ⟨.ref C, some dx, .fields vs, sl⟩) (hn : s.heap.Ns1 dx mA) (hw : PySem.Within mA ns) (hsz : ns.length + 1 ≤ sizeLine)
    (h : ∀ h', h'.Ns1 dx (fun y => if y = name then some v else mA y) → Heap.SameBut dx s.heap h' → Q () { s with heap := h', toks := s.toks + 2 }) : wpAny (model prog w) A (setAttr (.ref x) name v) Q E s := by
  obtain ⟨od, ho, hl⟩ := lookIn_ns hn
  have J : PySem.W.InstAt s.heap x ⟨.ref C, some dx, .fields vs, sl⟩ C (some od) := ⟨he, rfl, rfl, ho⟩
  refine PySem.W.set_plain X J S.sa (osa_exc (s := { s with toks := s.toks + 1 }) X J S ht fun b => ?_)
  obtain ⟨cd, hc, hd'⟩ := PySem.W.any_some S.hd
  refine wpAny_bind (wpAny_pure (wpAny_bind (wpAny_bind (wpAny_loadPart he (wpAny_bind (PySem.W.Looks.here (s := { s with toks := s.toks + 1 }) (PySem.W.looks_clsIn X hc) ?_))))))
  rw [hd']
  refine wpAny_pure (a := some dx) (wpAny_bind (wpAny_pure (wpAny_bind ?_)))
  refine wpAny_nsSet1 (s := { s with toks := s.toks + 1 }) hn fun h' hn2 hs2 => ?_
  obtain ⟨oD, esD, epD, hoD, hdD, hcD⟩ := hn2.count (PySem.Within.cons name v hw)
  refine wpAny_bind (wpAny_lookBehind hoD (by rw [hdD]; exact pastItsLine_dict (Nat.le_trans hcD (by rw [List.length_cons]; omega))) ?_)
  exact wpAny_pure (h _ hn2 hs2)
theorem store_none {vs : Array Value} {sl : Array (Option Value)} {Q : Unit → Shared → Prop} (X : K.In s.heap) (S : XSt K C) (ht : PySem.W.takerIn K C name = some none)
    (he : s.heap.get? x = some ⟨.ref C, none, .fields vs, sl⟩)
    (h : ∀ h', h'.Ns1 s.heap.objs.size (fun y => if y = name then some v else none) → Heap.SameBut s.heap.objs.size ((s.heap.push PySem.W.emptyDict).update x fun o => { o with dict := some s.heap.objs.size }) h' → Q () { s with heap := h', toks := s.toks + 2 }) : wpAny (model prog w) A (setAttr (.ref x) name v) Q E s := by
  have J : PySem.W.InstAt s.heap x ⟨.ref C, none, .fields vs, sl⟩ C none := ⟨he, rfl, rfl, trivial⟩
  refine PySem.W.set_plain X J S.sa (osa_exc (s := { s with toks := s.toks + 1 }) X J S ht fun b => ?_)
  obtain ⟨cd, hc, hd'⟩ := PySem.W.any_some S.hd
  refine wpAny_bind (wpAny_pure (wpAny_bind (wpAny_bind (wpAny_loadPart he (wpAny_bind (PySem.W.Looks.here (s := { s with toks := s.toks + 1 }) (PySem.W.looks_clsIn X hc) ?_))))))
  rw [hd']
  rw [if_neg (by decide)]
  have hxs : x ≠ s.heap.objs.size := Nat.ne_of_lt (Heap.lt_size he)
  have hx₁ : (s.heap.push PySem.W.emptyDict).get? x = some ⟨.ref C, none, .fields vs, sl⟩ := Heap.get?_push_of_some _ he
  show wpAny (model prog w) A.in1 (alloc PySem.W.emptyDict >>= fun d => update x (fun o => { o with dict := some d }) >>= fun _ => dictMade (.ref C) x d) _ _ _
  refine wpAny_bind (wpAny_alloc (wpAny_bind (wpAny_update hx₁ ?_)))
  refine wpAny_pure ?_
  have hgd : ((s.heap.push PySem.W.emptyDict).update x fun o => { o with dict := some s.heap.objs.size }).get? s.heap.objs.size = some PySem.W.emptyDict :=
    (Heap.get?_update_ne _ _ _ _ hxs.symm).trans (Heap.get?_push_size _ rfl)
  have hnd : ((s.heap.push PySem.W.emptyDict).update x fun o => { o with dict := some s.heap.objs.size }).Ns s.heap.objs.size (fun _ => none) :=
    ⟨_, #[], _, hgd, rfl, fun e he => absurd he (by simp), fun _ => rfl⟩
  show wpAny _ _ (Builtin.ObjectAttr.storeInDict s.heap.objs.size (.str name s.toks) name v) _ _ _
  refine wpAny_bind (wpAny_pure (wpAny_bind ?_))
  refine wpAny_nsSet1 (s := { s with heap := (s.heap.push PySem.W.emptyDict).update x fun o => { o with dict := some s.heap.objs.size }, toks := s.toks + 1 }) (Heap.Ns1.of_empty hnd) fun h' hn2 hs2 => ?_
  obtain ⟨oD, esD, epD, hoD, hdD, hcD⟩ := hn2.count (PySem.Within.cons name v PySem.Within.nil)
  refine wpAny_bind (wpAny_lookBehind hoD (by rw [hdD]; exact pastItsLine_dict (Nat.le_trans hcD (by rw [List.length_cons, List.length_nil, sizeLine_eq]; omega))) ?_)
  exact wpAny_pure (h _ hn2 hs2)
end
end L2

namespace L2
open PySem PySem.Spec PyProof.Rows
/-! ### the rules -/
theorem relO_put {fs : List (Str × V)} {mA : Str → Option Value} {f : Str} {y : V} {u : Value} (r : ∀ g, RelO (fs.lookup g) (mA g)) (ry : RelV y u) : ∀ g, RelO ((putF f y fs).lookup g) (if g = f then some u else mA g) := fun g => by
  rw [lookup_putF]
  by_cases q : g = f
  · rw [if_pos q, if_pos q]; exact ry
  · rw [if_neg q, if_neg q]; exact r g
theorem within_put {fs : List (Str × V)} {mA : Str → Option Value} {f : Str} {y : V} {u : Value} (wi : PySem.Within mA (fs.map (·.1))) : PySem.Within (fun g => if g = f then some u else mA g) ((putF f y fs).map (·.1)) := fun g hg => by
  by_cases q : g = f
  · rw [q]; exact (keys_putF f y fs).1
  · refine (keys_putF f y fs).2 g (wi g fun z => hg ?_)
    show (if g = f then some u else mA g) = none
    rw [if_neg q]; exact z
def sFldX (K : PySem.W.Frag) (ta tv : TE) (f : Str) : TS := fun D σ H => tv σ H fun y H1 => ta σ H1 fun x H2 => ∃ e C, x = .ref e ∧ XSt K C ∧ NoAttr K C f ∧
  ((H2 e = some (newX e C none) ∧ ∀ dx, H2 dx = none → D.nx σ (upd (upd (upd H2 dx (xdO dx [])) e (newX e C (some dx))) dx (xdO dx (putF f y [])))) ∨
    ∃ dx fs, H2 e = some (newX e C (some dx)) ∧ H2 dx = some (xdO dx fs) ∧ fs.length < 1000 ∧ D.nx σ (upd H2 dx (xdO dx (putF f y fs))))
theorem ps_fldX {X : Cx} {o value : Expr} {f : Str} {pos pos' : Pos} {ta tv : TE} (ha : PE X o ta) (hv : PE X value tv) (hs : swapsWith value (some (.Attribute o f pos')) pos.line X.env = pure false) : PS X (.Assign [.Attribute o f pos'] value pos) (sFldX X.K ta tv f) := by
  intro pins s σ H D I h
  refine plainObj_wpAny_Assign_Attribute (thn (hv pins s σ H _ I h) fun u s1 ⟨y, H1, I1, ry, q⟩ => thn (ha pins s1 σ H1 _ I1 q) fun ov s2 ⟨x, H2, I2, rx, e, C, ex, S, n, hk⟩ => ?_) hs
  subst ex
  obtain rfl : ov = Value.ref e := rx
  rcases hk with ⟨hx, q2⟩ | ⟨dx, fs, hx, hd, hl, q2⟩
  · obtain ⟨⟨vs, sl, he, h1⟩, _, _⟩ := (show ObjOk X.prog X.w H2 s2.heap e (newX e C none) from I2.hok e _ hx)
    refine store_none I2.kIn S n.taker he fun h' hn' sb => ?_
    have ne : e ≠ s2.heap.objs.size := Nat.ne_of_lt (Heap.lt_size he)
    have e1 : (s2.heap.push PySem.W.emptyDict).get? s2.heap.objs.size = some PySem.W.emptyDict := Heap.get?_push_size _ rfl
    have n1 : (s2.heap.push PySem.W.emptyDict).Ns1 s2.heap.objs.size (fun _ => none) := Heap.Ns1.of_empty ⟨_, #[], _, e1, rfl, (fun e he => absurd he (by simp)), fun _ => rfl⟩
    have he1 : (s2.heap.push PySem.W.emptyDict).get? e = some ⟨.ref C, none, .fields vs, sl⟩ := Heap.get?_push_of_some _ he
    have he2 := Heap.get?_update_self (fun o => { o with dict := some s2.heap.objs.size }) he1 rfl
    have J1 := I2.laid (a := s2.heap.objs.size) (o := xdO s2.heap.objs.size []) (h' := s2.heap.push PySem.W.emptyDict) (t' := s2.toks) (fun b u q => Heap.get?_push_of_some _ q) (Nat.le_refl _) (xdO_ok n1 (fun _ => True.intro) (fun y hy => absurd rfl hy))
    have J2 := J1.write (x := e) (e := e) (o := newX e C (some s2.heap.objs.size)) (t' := s2.toks) (by rw [upd_ne ne, hx]; exact True.intro) (.inl rfl) (fun b u hb q => (Heap.get?_update_other _ _ (Ne.symm hb)).trans q) ⟨_, he2⟩ (newX_ok he2 h1)
    have J3 := J2.write (x := s2.heap.objs.size) (e := s2.heap.objs.size) (o := xdO s2.heap.objs.size (putF f y [])) (h' := h') (t' := s2.toks + 2) (by rw [upd_ne (Ne.symm ne), upd_same]; exact True.intro) (.inl rfl) (fun b u hb q => (sb.2 b hb).trans q) (let ⟨o, _, _, e, _⟩ := hn'; ⟨o, e⟩)
      (xdO_ok hn' (relO_put (mA := fun _ => none) (fun _ => True.intro) ry) (within_put (mA := fun _ => none) fun y hy => absurd rfl hy)) (ht := by show s2.toks ≤ s2.toks + 2; omega)
    exact ⟨σ, _, J3, q2 _ (I2.hok.fresh (Nat.le_refl _))⟩
  · obtain ⟨⟨vs, sl, he, h1⟩, _, _⟩ := (show ObjOk X.prog X.w H2 s2.heap e (newX e C (some dx)) from I2.hok e _ hx)
    obtain ⟨⟨mA, nA, rA, wA⟩, _, _⟩ := (show ObjOk X.prog X.w H2 s2.heap dx (xdO dx fs) from I2.hok dx _ hd)
    refine store_some I2.kIn S n.taker he nA wA (by rw [List.length_map, sizeLine_eq]; omega) fun h' hn' sb => ?_
    have J3 := I2.write (x := dx) (e := dx) (o := xdO dx (putF f y fs)) (h' := h') (t' := s2.toks + 2) (by rw [hd]; exact True.intro) (.inl rfl) (fun b u hb q => (sb.2 b hb).trans q) (let ⟨o, _, _, e, _⟩ := hn'; ⟨o, e⟩) (xdO_ok hn' (relO_put rA ry) (within_put wA))
    exact ⟨σ, _, J3, q2⟩
structure XMk (K : PySem.W.Frag) (C f : Addr) : Prop where
  cls : XClsI K C f
  fn : PySem.W.isFn K (.ref f) = true
  kp : PySem.W.keepIn K (.ref C) = true
def tRaiseI (C : Addr) (sp : Sp) (E : St → XK) (t : TA) : TS := fun _ σ H => t σ H fun vs H1 => vs.length ≤ sizeLine ∧ ∀ e, H1 e = none →
  sp (.ref e :: vs) (upd H1 e (newX e C none)) (fun v H2 => v = .non ∧ ∃ od, H2 e = some (newX e C od) ∧ E σ (.ref C) od (del H2 e)) (E σ)
theorem ps_raiseI {X : Cx} {E : St → XK} {C f : Addr} {x : Str} {np cpos pos : Pos} {k : Nat} {fd : FuncData} {ps : List Str} {sp : Sp} {e : Expr} {es : List Expr} {t : TA} (L : Lets X E) (M : XMk X.K C f)
    (F : FnOk X.prog X.w X.K X.mg X.base (CXs X.prog X.w) k f fd ps sp) (hr : Room (k + 1) X.A) (hb : Binds X.K fd ps []) (hc : X.calm = true)
    (hg : Gl X x) (hm : X.mg x = some (.ref C)) (ha : PA X (e :: es) t) (hdb : (x == ("__debug__" : Str)) = false := by decide) (he : starEach (e :: es) X.env = (false, eval e X.env) :: starEach es X.env := by rfl)
    (hpl : (backTo cpos (starEach es X.env)).any (·.1) = false := by rfl) : PS X (.Raise (some (.Call (.Name x np) (e :: es) [] cpos)) none pos) (tRaiseI C sp E t) := by
  intro pins s σ H D I h
  obtain ⟨d, hC, hN, hni, T⟩ := M.cls.obj X.base I.ok.mod.kin
  rw [arm_exec_Raise]
  have FB := PySem.F.excBase_ValueError
  simp only [evalOpt, Option.map]
  refine wpAny_bind (wpAny_standAt (raise_made (C := C) (nm := d.nm) (q := d.q) (N := d.N) (bs := d.bs) (bm := d.bm) (hdct := d.hdct) (sn := d.sn) (sub := d.sub) (ab := d.ab) (col := d.col) (dd := d.dd) (k0 := d.k0) (k1 := d.k1) (k2 := d.k2) (k3 := d.k3) (k5 := d.k5) (newId := "ValueError.__new__") (T.hasType FB.hasBase) (I.ok.hd hc) ?_))
  refine wpAny_bind (thn (Q := fun v s₁ => ∃ e od vs sl, v = .ref e ∧ s₁.heap.get? C = some (d.obj C "ValueError.__new__") ∧ s₁.heap.get? e = some ⟨.ref C, od, .fields vs, sl⟩ ∧ vs[1]? = some .none ∧ X.xe (.ref e) s₁) ?_ fun v s2 h2 => wpAny_bind (wpAny_standAt (wpAny_pure h2)))
  refine wpAny_Call_Name_kw (ld_glob I hg hm ?_ hdb)
  refine PySem.W.callWith_K (h₀ := X.base) I.ok.mod.kin M.kp (thn (ha cpos pins s σ H _ I h) fun us s1 ⟨vs, H1, I1, r, hl, q1⟩ => ⟨I1.kIn, ?_⟩) he hpl
  have hfo : ∃ o, s1.heap.get? f = some o ∧ o.cls = .type "function" := by
    obtain ⟨o, ho, hc⟩ := Option.map_eq_some_iff.mp (beq_iff_eq.mp M.fn)
    exact ⟨o, I1.kIn _ _ ho, hc⟩
  obtain ⟨oI, hfo, hfc⟩ := hfo
  have I1' := I1
  obtain ⟨hh, gs, dr, tk, os⟩ := s1
  refine call_init (N := d.N) (mN := d.mN) FB FB.hasB FB (T.keeps I1.bk) (I1.bk _ _ hC) (hN.keeps I1.bk) hni hfo hfc (fun h' ea made => ?_) (by show us.length ≤ sizeLine; rw [← r.length]; exact hl)
  obtain ⟨t', ht, _, _⟩ := made.there
  have xo := I1.xok made.new (I1.hok.none_of made.new)
  have J0 : Inv X pins σ H1 ⟨h', gs, dr, tk, os⟩ := I1.kept (t' := tk) made.keeps
  have J1 : Inv X pins σ (upd H1 ea (newX ea C none)) ⟨h', gs, dr, tk, os⟩ := J0.tracks xo (newX_ok ht rfl)
  have hq := q1 ea xo.1
  have r2 : Vals (V.ref ea :: vs) (Value.ref ea :: us) := .cons rfl r
  have hlen : (Value.ref ea :: us).length = ps.length := by rw [← r2.length]; exact F.len _ _ _ _ hq
  refine wpAny_call (codeAny_mono (F.run _ X.stack _ _ ⟨Value.ref ea :: us, []⟩ (Value.ref ea :: us) _ _ (E σ) (hr.make C us []) (J1.env0.make C us []) (by have z := hb _ (Value.ref ea :: us) J1.kIn (by rw [List.append_nil]; exact hlen); rw [List.append_nil] at z; exact z) r2 hq) fun rr s' hq' => ?_)
  cases rr with
  | error e => exact L.pass J1 hq'
  | ok fl =>
    cases fl with
    | ret u =>
      obtain ⟨v, H', I3, rv, ev, od, hx, qE⟩ := J1.after hq'
      subst ev
      obtain ⟨⟨vs', sl', he', h1'⟩, _, _⟩ := (show ObjOk X.prog X.w H' s'.heap ea (newX ea C od) from I3.hok ea _ hx)
      refine ⟨rv, ea, od, vs', sl', rfl, I3.bk _ _ hC, he', h1', ?_⟩
      exact L pins σ (del H' ea) s' ea (.ref C) od (I3.drop hx) ⟨⟨del_same, xo.2⟩, vs', sl', he', .inl h1'⟩ qE
    | next => exact False.elim hq'
    | brk => exact False.elim hq'
    | cont => exact False.elim hq'
end L2

namespace L2
open PySem PySem.Spec PyProof.Rows
section
variable {X : Cx} {a b c : Expr} {ta tb tc : TE} {pos : Pos} {rest : List Expr}
end
end L2

namespace L2
open PySem PySem.Spec PyProof.Rows
end L2

namespace GP
open PySem L2 GwM
/-! ### manners, and layings that are refused -/
theorem log_small {n : Nat} (h : n ≤ 100000) : ((n : Nat) : Int).natAbs.log2 < 1920 := by
  rw [Int.natAbs_natCast]
  by_cases z : n = 0
  · subst z; decide
  · rw [Nat.log2_lt z]
    exact Nat.lt_of_le_of_lt h (Nat.lt_of_lt_of_le (show 100000 < 2 ^ 20 by decide) (Nat.pow_le_pow_right (by decide) (by decide)))
theorem fit_app {a b : Str} {m n : Nat} (h1 : a.length ≤ m) (h2 : b.length ≤ n) : (a ++ b).length ≤ m + n := by rw [strLen_append]; omega
def spNoSign (C : Addr) : Sp := fun vs H Q _ => ∃ (e : Addr) (i j : Nat), vs = [.ref e, .int i, .int j] ∧ H e = some (newX e C none) ∧ i ≤ 100000 ∧ j ≤ 100000 ∧
  ∀ dx H', (∀ b u, H b = some u → b ≠ e → H' b = some u) → H dx = none → H' e = some (newX e C (some dx)) → H' dx = some (xdO dx (putF "place" (.int j) (putF "row" (.int i) []))) → Q .non H'
end GP

namespace L2
open PySem PySem.Spec PyProof.Rows
/-! ### a caught exception: an attribute of its own -/
theorem exc_attr {prog : Program} {w : World} {A : Around} {E : Value → Shared → Prop} {s : Shared} {K : PySem.W.Frag} {x C : Addr} {ox : Obj} {od : Option Obj} {name : Str} {expr : Bool} {v : Value} {Q : Value → Shared → Prop} (Z : XTy K C) (k : K.In s.heap) (I : PySem.W.InstAt s.heap x ox C od)
    (hf : PySem.W.findObj K C od name = some (.value v)) (hd : PySem.W.handedIn v = true) (h : Q v { s with toks := s.toks + 1 }) : wpAny (model prog w) A (getAttr (.ref x) name expr) Q E s := by
  obtain ⟨hh, g, d, t, os⟩ := s
  have L0 := I.type (M := model prog w)
  have L1 := PySem.W.looks_findIn (M := model prog w) k Z.ga
  have L2 := PySem.W.looks_findIn (M := model prog w) k Z.gn
  have LB := PySem.W.looks_mroIn (M := model prog w) k Z.hb
  have LF := PySem.W.looks_find (M := model prog w) k I hf
  unfold getAttr getAttrBy
  refine wpAny_bind (wpAny_mkText (wpAny_holding (wpAny_bind (L0.at (wpAny_bind (L1.at ?_))))))
  show wpAny _ _ (getAttrByItsOwn _ _ _ _ _ _) _ _ _
  unfold getAttrByItsOwn hookBefore
  refine wpAny_bind (L2.at ?_)
  refine wpAny_bind (wpAny_attempt (wpAny_holding ?_))
  have e0 : ∀ n : Value, callGetattribute (.ref x) n (.builtin "BaseException.__getattribute__") expr = boundAndCalled (.builtin "BaseException.__getattribute__") (.ref x) n := fun n => by
    unfold callGetattribute
    cases expr <;> rfl
  rw [e0]
  unfold boundAndCalled
  refine wpAny_bind (wpAny_of_eq (PySem.F.attr_ValueError.ga.bind (.ref x)) ?_)
  show wpAny _ _ (call (.builtin "BaseException.__getattribute__") [.ref x, .str name t]) _ _ _
  refine wpAny_call (codeAny_call_builtin PySem.F.attr_ValueError.ga.plain PySem.F.entry_bexc_ga ?_)
  have c1 : builtinKind "BaseException.__getattribute__" = some .slot := by decide +kernel
  have c2 : splitId "BaseException.__getattribute__" = some ("BaseException", "__getattribute__") := by decide +kernel
  have c3 := PySem.F.args_bexc_ga (.ref x) (.str name t)
  simp only [checkBuiltinCall, c1, c2]
  refine wpAny_bind (wpAny_bind (L0.at (LB.at ?_)))
  simp only [Bool.not_true, Bool.false_eq_true, if_false]
  unfold argsOk at c3
  refine wpAny_of_eq c3 ?_
  unfold Builtin.«object.__getattribute__»
  refine wpAny_bind (wpAny_pure (wpAny_bind (wpAny_pure (wpAny_bind (L0.at (wpAny_bind (LF.at ?_)))))))
  refine wpAny_pure ?_
  show wpAny _ _ (handedOut v) _ _ _
  rw [PySem.W.handedOut_of hd]
  exact wpAny_pure h
def tFldE (K : PySem.W.Frag) (ta : TE) (f : Str) : TE := fun σ H Q => ta σ H fun x H1 => ∃ e C dx fs i, x = .ref e ∧ H1 e = some (exO e (.ref C) (some dx)) ∧ H1 dx = some (xdO dx fs) ∧ XTy K C ∧ NoAttr K C f ∧ fs.lookup f = some (.int i) ∧ Q (.int i) H1
theorem inst_exc {P : Program} {w : World} {H : Hp} {h : Heap} {e C dx : Addr} {fs : List (Str × V)} (hok : HOk P w H h) (he : H e = some (exO e (.ref C) (some dx))) (hd : H dx = some (xdO dx fs)) :
    ∃ ox od, ∃ mA : Str → Option Value, PySem.W.InstAt h e ox C (some od) ∧ (∀ name, PySem.W.lookIn name od = some (mA name)) ∧ ∀ f, RelO (fs.lookup f) (mA f) := by
  obtain ⟨⟨vs, sl, h1⟩, _, _⟩ := (show ObjOk P w H h e (exO e (.ref C) (some dx)) from hok e _ he)
  obtain ⟨⟨mA, nA, rA, wA⟩, _, _⟩ := (show ObjOk P w H h dx (xdO dx fs) from hok dx _ hd)
  obtain ⟨od, ho, hl⟩ := lookIn_ns nA
  exact ⟨_, od, mA, ⟨h1, rfl, rfl, ho⟩, hl, rA⟩
theorem pe_fldE {X : Cx} {e : Expr} {f : Str} {pos : Pos} {ta : TE} (he : PE X e ta) (hb : attributeBase e f X.env (eval e X.env) = eval e X.env) : PE X (.Attribute e f pos) (tFldE X.K ta f) := by
  intro pins s σ H Q I h
  refine attr_of hb (thn (he pins s σ H _ I h) fun u s1 ⟨x, H1, I1, rx, e, C, dx, fs, i, ex, hx, hd, Z, n, l, q⟩ => ?_)
  subst ex
  obtain rfl : u = Value.ref e := rx
  obtain ⟨ox, od, mA, J, hl, rA⟩ := inst_exc I1.hok hx hd
  have r := rA f
  rw [l] at r
  cases hm : mA f with
  | none => rw [hm] at r; exact r.elim
  | some u =>
    rw [hm] at r
    obtain ⟨t, rfl⟩ := (show ∃ t, u = Value.int i t from r)
    refine exc_attr Z I1.kIn J ?_ rfl ⟨.int i, H1, I1.tok _, ⟨t, rfl⟩, q⟩
    obtain ⟨cd, hc, hdd⟩ := PySem.W.any_some Z.hd
    have hn : PySem.W.findIn X.K (.ref C) f = some none := n
    unfold PySem.W.findObj
    rw [hc, Option.bind_some, hn, Option.bind_some]
    simp only [Option.bind_some, PySem.W.ownOf, hdd, if_true, hl, hm]
theorem call_isinstXD {X : Cx} : CallR X (.builtin "isinstance") (fun xs H Q => ∃ ea C od c cv b, xs = [.ref ea, c] ∧ ((∃ D, c = .ref D ∧ cv = .ref D) ∨ ∃ T, c = .ty T ∧ cv = .type T) ∧ H ea = some (exO ea (.ref C) od) ∧ (od = none ∨ ∃ dx fs, od = some dx ∧ H dx = some (xdO dx fs)) ∧ XTy X.K C ∧ PySem.W.kitOne X.K (.ref C) cv = some b ∧ Q (.bl b) H) := by
  intro pins s σ H vs us Q I r h
  obtain ⟨ea, C, od, c, cv, b, rfl, hc, hx, hod, Z, hk, q⟩ := h
  obtain ⟨u, u2, rfl, rx, rc⟩ := vals2 r
  cases (show u = Value.ref ea from rx)
  have e2 : u2 = cv := by
    rcases hc with ⟨D, rfl, rfl⟩ | ⟨T, rfl, rfl⟩
    · exact rc
    · exact rc
  subst e2
  rcases hod with rfl | ⟨dx, fs, rfl, hd⟩
  · obtain ⟨⟨ws, sl, e⟩, _, _⟩ := (show ObjOk X.prog X.w H s.heap ea (exO ea (.ref C) none) from I.hok ea _ hx)
    exact TK.wpAny_up (Nat.le_refl s.toks) (PySem.W.kia_one (kitx_exc (ox := ⟨.ref C, none, .fields ws, sl⟩) (od := none) Z) I.kIn ⟨e, rfl, rfl, trivial⟩ hk (fun z => nomatch z) fun tk hup => ⟨.bl b, H, I.tok tk, rfl, q⟩)
  · obtain ⟨ox, o, mA, J, hl, rA⟩ := inst_exc I.hok hx hd
    exact TK.wpAny_up (Nat.le_refl s.toks) (PySem.W.kia_one (kitx_exc (ox := ox) (od := some o) Z) I.kIn J hk (fun z => nomatch z) fun tk hup => ⟨.bl b, H, I.tok tk, rfl, q⟩)
/-! ### a text so many times -/
theorem strExt {x y : Str} (h : x.cps = y.cps) : x = y := by
  cases x
  cases y
  exact congrArg Str.mk h
def repS (x : Str) (n : Int) : Str := ⟨(List.replicate n.toNat x.cps).foldl (· ++ ·) #[]⟩
theorem rep_toList (a : Array Nat) : ∀ (n : Nat) (b : Array Nat), ((List.replicate n a).foldl (· ++ ·) b).toList = b.toList ++ (List.replicate n a.toList).flatten
  | 0, b => by simp
  | n + 1, b => by
    rw [List.replicate_succ, List.foldl_cons, rep_toList a n, List.replicate_succ, List.flatten_cons, Array.toList_append, List.append_assoc]
theorem repS_list (x : Str) (n : Int) : (repS x n).cps.toList = (List.replicate n.toNat x.cps.toList).flatten := by
  unfold repS
  rw [rep_toList]
  rfl
theorem repS_len (x : Str) (n : Int) : (repS x n).cps.size = n.toNat * x.cps.size := by
  rw [← Array.length_toList, repS_list, List.length_flatten, List.map_replicate, List.sum_replicate_nat]
  rfl
theorem op_repS {X : Cx} : OpR X (binaryOp .Mult) (fun x y H Q => ∃ z n, x = .str z ∧ y = .int n ∧ -1000000 ≤ n ∧ n ≤ 1000000 ∧ z.cps.size ≤ 1000000 ∧ n.toNat * z.cps.size ≤ sizeLine ∧ Q (.str (repS z n)) H) := by
  intro pins s σ H x y v u Q I rx ry h
  obtain ⟨z, n, rfl, rfl, h1, h2, h3, h4, q⟩ := h
  obtain ⟨t, rfl⟩ := rx
  obtain ⟨t', rfl⟩ := ry
  have hl : z.length = z.cps.size := rfl
  refine TK.wpAny_up (Nat.le_refl s.toks) (PySem.P.mul_str ?_ (fun k1 _ => ?_) (fun _ _ => ?_) ?_)
  · rw [decide_eq_false (by omega), decide_eq_false (by omega)]; rfl
  · have k2 : 1 ≤ n := by omega
    have : (2 ^ 63 - 1 : Int) / n ≥ 1000000 := by
      rw [ge_iff_le, Int.le_ediv_iff_mul_le (by omega)]
      calc 1000000 * n ≤ 1000000 * 1000000 := by omega
        _ ≤ _ := by decide
    omega
  · show decide (z.length * n.toNat > sizeLine) = false
    rw [hl, Nat.mul_comm]
    exact decide_eq_false (Nat.not_lt.mpr h4)
  · have fin : ∀ y : Str, y = repS z n → ∀ t k, s.toks ≤ k → EP X pins σ Q (.str y t) { s with toks := k } := fun y e t k hk => ⟨.str (repS z n), H, I.tok k hk, ⟨t, by rw [e]⟩, q⟩
    by_cases k1 : n < 1
    · rw [if_pos k1]
      refine ⟨Nat.zero_le _, fin _ ?_ _ _⟩
      unfold repS
      rw [show n.toNat = 0 by omega]
      rfl
    · rw [if_neg k1]
      by_cases k2 : (n == 1 || z.length == 0) = true
      · rw [if_pos k2]
        refine fin _ ?_ _ s.toks
        rcases Bool.or_eq_true_iff.mp k2 with k | k
        · have e : n = 1 := by simpa using k
          subst e
          show z = ⟨#[] ++ z.cps⟩
          simp
        · have e : z.cps.size = 0 := (show z.length = 0 from eq_of_beq k)
          have e1 := repS_len z n
          rw [e, Nat.mul_zero] at e1
          have a1 : z.cps = #[] := Array.eq_empty_of_size_eq_zero e
          have a2 : (repS z n).cps = #[] := Array.eq_empty_of_size_eq_zero e1
          have : z.cps = (repS z n).cps := a1.trans a2.symm
          exact strExt this
      · rw [if_neg k2]
        refine ⟨?_, fin _ rfl _ _⟩
        show (repS z n).cps.size ≤ sizeLine
        rw [repS_len]
        exact h4
end L2

namespace GP
open PySem L2 GwM
/-! ### slices of a text -/
theorem slice_of {x : Str} {lo hi : Option Int} {a b : Nat} (e : PySem.Builtin.Str.strSliceIndices lo hi 1 x.length = PySem.Builtin.Str.strSliceIndices (some (a : Int)) (some (b : Int)) 1 x.length) (hab : a ≤ b) (hb : b ≤ x.cps.size) : (Txt.slice x lo hi).cps.toList = (x.cps.toList.drop a).take (b - a) := by
  have hb' : b ≤ x.length := hb
  have f := StrLaws.sliced_plain x hab hb'
  unfold Txt.slice
  rw [e]
  split
  · next h =>
    have hl : (PySem.Builtin.Str.strSliceIndices (some (a : Int)) (some (b : Int)) 1 x.length).length = x.length := by simpa using h
    rw [StrLaws.strSliceIndices_plain hab hb', List.length_map, List.length_range] at hl
    have hl' : b - a = x.cps.size := hl
    have ha : a = 0 := by omega
    subst ha
    rw [List.drop_zero, List.take_of_length_le (by rw [Array.length_toList]; omega)]
  · exact f
theorem slice_lo {x : Str} {k : Int} (h0 : 0 ≤ k) (h1 : k ≤ (x.cps.size : Int)) : (Txt.slice x none (some k)).cps.toList = x.cps.toList.take k.toNat := by
  obtain ⟨n, rfl⟩ : ∃ n : Nat, k = (n : Int) := ⟨k.toNat, (Int.toNat_of_nonneg h0).symm⟩
  have e := slice_of (x := x) (lo := none) (hi := some (n : Int)) (a := 0) (b := n) (by
    simp only [PySem.Builtin.Str.strSliceIndices]
    simp
    rw [show max (0 : Int) (min 0 (x.length : Int)) = 0 by omega]) (Nat.zero_le _) (by omega)
  rw [e, List.drop_zero]
  rfl
theorem slice_hi {x : Str} {k : Int} (h0 : 0 ≤ k) (h1 : k ≤ (x.cps.size : Int)) : (Txt.slice x (some k) none).cps.toList = x.cps.toList.drop k.toNat := by
  obtain ⟨n, rfl⟩ : ∃ n : Nat, k = (n : Int) := ⟨k.toNat, (Int.toNat_of_nonneg h0).symm⟩
  have e := slice_of (x := x) (lo := some (n : Int)) (hi := none) (a := n) (b := x.cps.size) (by
    have hl : x.length = x.cps.size := rfl
    simp only [PySem.Builtin.Str.strSliceIndices, hl]
    simp
    rw [if_neg (show ¬ (x.cps.size : Int) < 0 by omega), show max (0 : Int) (min (x.cps.size : Int) (x.cps.size : Int)) = (x.cps.size : Int) by omega]) (by omega) (Nat.le_refl _)
  rw [e, List.take_of_length_le (by rw [List.length_drop, Array.length_toList]; omega)]
  rfl
def fldS (i j : Nat) : List (Str × V) := putF "place" (.int j) (putF "row" (.int i) [])
theorem fldS_row {i j : Nat} : (fldS i j).lookup ("row" : Str) = some (.int i) := by
  unfold fldS
  rw [lookup_putF, if_neg (by decide +kernel), lookup_putF, if_pos rfl]
theorem fldS_place {i j : Nat} : (fldS i j).lookup ("place" : Str) = some (.int j) := by
  unfold fldS
  rw [lookup_putF, if_pos rfl]
end GP

namespace GP
open PySem L2 GwM
end GP

namespace L2
open PySem PySem.Spec PyProof.Rows PySem.Builtin PySem.Builtin.Str
/-! ### isinstance of a caught exception and a tuple of classes -/
theorem vals_refs : ∀ {cs : List Addr} {us : List Value}, Vals (cs.map V.ref) us → us = cs.map Value.ref
  | [], _, .nil => rfl
  | _ :: _, _, .cons r q => by
    cases r
    rw [vals_refs q]
    rfl
theorem call_isinstXT {X : Cx} : CallR X (.builtin "isinstance") (fun xs H Q => ∃ (ea C : Addr) (od : Option Addr) (tp : Addr) (cs : List Addr) (b : Bool), xs = [.ref ea, .ref tp] ∧ H tp = some (.tup (cs.map V.ref)) ∧ H ea = some (exO ea (.ref C) od) ∧ (od = none ∨ ∃ dx fs, od = some dx ∧ H dx = some (xdO dx fs)) ∧ XTy X.K C ∧ PySem.W.kitAny X.K (.ref C) (cs.map Value.ref) = some b ∧ Q (.bl b) H) := by
  intro pins s σ H vs us Q I r h
  obtain ⟨ea, C, od, tp, cs, b, rfl, htp, hx, hod, Z, hk, q⟩ := h
  obtain ⟨u, u2, rfl, rx, rc⟩ := vals2 r
  cases (show u = Value.ref ea from rx)
  cases (show u2 = Value.ref tp from rc)
  obtain ⟨its, rv, ⟨⟨cl, dd, da, sl⟩, e1, e2, n, e3⟩, _⟩ := I.tuple (SqT.of htp)
  simp only at e2 e3
  subst e2 e3
  have hi := vals_refs rv
  subst hi
  rcases hod with rfl | ⟨dx, fs, rfl, hd⟩
  · obtain ⟨⟨ws, sl, e⟩, _, _⟩ := (show ObjOk X.prog X.w H s.heap ea (exO ea (.ref C) none) from I.hok ea _ hx)
    exact TK.wpAny_up (Nat.le_refl s.toks) (PySem.W.kia_tup (kitx_exc (ox := ⟨.ref C, none, .fields ws, sl⟩) (od := none) Z) I.kIn ⟨e, rfl, rfl, trivial⟩ e1 hk (fun z => nomatch z) fun tk hup => ⟨.bl b, H, I.tok tk, rfl, q⟩)
  · obtain ⟨ox, o, mA, J, hl, rA⟩ := inst_exc I.hok hx hd
    exact TK.wpAny_up (Nat.le_refl s.toks) (PySem.W.kia_tup (kitx_exc (ox := ox) (od := some o) Z) I.kIn J e1 hk (fun z => nomatch z) fun tk hup => ⟨.bl b, H, I.tok tk, rfl, q⟩)
end L2

namespace GP
open PySem L2 GwM
theorem strApp (x y : Str) : (x ++ y).cps.toList = x.cps.toList ++ y.cps.toList := by
  show (x.cps ++ y.cps).toList = _
  rw [Array.toList_append]
theorem strAppSize (x y : Str) : (x ++ y).cps.size = x.cps.size + y.cps.size := by
  rw [← Array.length_toList, strApp, List.length_append, Array.length_toList, Array.length_toList]
theorem slice_up (x : Str) (b : Nat) : (Txt.slice x none (some (b : Int))).cps.toList = x.cps.toList.take b := by
  have hl : x.cps.toList.length = x.cps.size := Array.length_toList
  have e := slice_of (x := x) (lo := none) (hi := some (b : Int)) (a := 0) (b := min b x.cps.size) (by
    have hl : x.length = x.cps.size := rfl
    simp only [PySem.Builtin.Str.strSliceIndices, hl]
    simp
    rw [if_neg (by omega), if_neg (by omega)]
    congr 2 <;> omega) (by omega) (by omega)
  rw [e, List.drop_zero, Nat.sub_zero]
  by_cases h1 : b ≤ x.cps.size
  · rw [Nat.min_eq_left h1]
  · rw [Nat.min_eq_right (by omega), List.take_of_length_le (by omega), List.take_of_length_le (by omega)]
end GP

namespace GP
open PySem L2 GwM
theorem kit_nil {K : PySem.W.Frag} {t : Value} : PySem.W.kitAny K t [] = some false := rfl
theorem kit_cons {K : PySem.W.Frag} {t c : Value} {r : List Value} {b : Bool} (h : PySem.W.kitOne K t c = some false) (h' : PySem.W.kitAny K t r = some b) : PySem.W.kitAny K t (c :: r) = some b := by
  unfold PySem.W.kitAny
  rw [h]
  exact h'
end GP

namespace GP
open PySem L2 GwM
end GP

namespace L2
open PySem PySem.Spec PyProof.Rows
section
variable {X : Cx} {tg : Expr}
end
end L2

namespace GP
open PySem L2 GwM
end GP

namespace L2
open PySem PySem.Spec PyProof.Rows
/-! ### the head that sees the tokens -/
def tokAll (K : PySem.W.Frag) (t : Nat) : Bool := match K.lookup mainGlobals with
  | some ⟨_, _, .dict es _, _⟩ => es.all fun e => match e.val with | .str _ u => Nat.blt u t && !(Nat.beq u 0) | _ => true
  | _ => false
theorem findBy_mem {f : Str → Value → Bool} {es : Array DictEntry} {n : Str} {v : Value} (h : PySem.findBy f es n = some v) : ∃ e ∈ es, e.val = v := by
  unfold PySem.findBy at h
  obtain ⟨e, he, rfl⟩ := Option.map_eq_some_iff.mp h
  exact ⟨e, Array.mem_of_find?_eq_some he, rfl⟩
theorem tokB_of {K : PySem.W.Frag} {h : Heap} {mg : Str → Option Value} {t : Nat} (KX : K.In h) (hns : h.Ns mainGlobals mg) (c : tokAll K t = true) : TokB mg t := by
  obtain ⟨o, es, ep, e, d, _, hm⟩ := hns
  unfold tokAll at c
  split at c
  · rename_i cl dd es' ep' sl hl
    have e' := KX _ _ hl
    rw [e] at e'
    cases e'
    cases d
    intro x v u hx
    obtain ⟨en, hen, ev⟩ := findBy_mem ((hm x).trans hx)
    have z := Array.all_eq_true'.mp c en hen
    rw [ev] at z
    simp only [Bool.and_eq_true, Nat.blt_eq, Bool.not_eq_true'] at z
    exact ⟨z.1, fun q => by rw [q] at z; exact absurd z.2 (by decide)⟩
  · cases c
theorem walk_ofZ {l : PySem.W.OpenLaw} {n k N t : Nat} {q : Program} {loose : List Str} {XP : (Str → Option Value) → Heap → Prop} {as : List Addr} {d : DefRec} {K : Params → PySem.W.Frag} {CX : World → CXT} {sp : World → Sp} {x : Str}
    (hn : l.most = some n) (hn2 : n ≤ sizeLine) (hdf : d.params.defaults = []) (hr : Room k callerA)
    (hk : ∀ P, as = (K P).map (·.1)) (ht : ∀ P, tokAll (K P) t = true)
    (F : ∀ (w : World) (mg : Str → Option Value) (fa : Addr) (h : Heap), (K w.params).In h → h.Ns mainGlobals mg → mg d.name = some (.ref fa) →
      ∃ fd : FuncData, (∀ (s : Shared) (u : Value), BindsTo s fd ⟨[u], []⟩ [(x, u)]) ∧
        ∀ base : Heap, (K w.params).In base → base.Ns mainGlobals mg → FnOk l.prog w (K w.params) mg base (CX w) k fa fd [x] (sp w))
    (hsp : ∀ (w : World) (H : Hp) (a : Addr) (ns : List Int), ns.length ≤ n → Only H → SqL (K w.params) H a (ns.map V.int) → sp w [.ref a] H (fun v _ => v = .bl true) fun _ _ _ => False)
    (hCX : ∀ (w : World) (H : Hp) (s : Shared) (e : Value) (s' : Shared), CX w [] H s (fun _ _ _ => False) e s' → False) :
    PySem.W.WalkX q loose XP (PySem.W.X.obsZ as) (PySem.W.X.valZ K N t) l.row.toRowW d [] (fun f vs => PySem.call f vs) := by
  intro w s₀ s₁ mg mb G y fa o pm cd doc dV kV ho hd hcd hD hmg hg args vals as' L hpre hlay hrd hwl hlo
  have Z := PySem.W.X.z_facts hk y
  have tk : t ≤ s₁.toks := by
    obtain ⟨ord, _, e⟩ := L.laid
    have g := (PySem.W.layAllW_grows _ _ _ e).toks
    rw [Z.2.2.2] at g
    exact g
  have KX : (K w.params).In s₁.heap := PySem.W.InK.keeps w s₀.heap s₁.heap Z.2.1 L.keeps
  obtain rfl : dV = .none := PySem.W.Dflts.none hD hdf
  obtain rfl : kV = .none := PySem.W.Dflts.noKw hD
  obtain ⟨a, vs, ns, rfl, rfl, hobj, hints, hlen⟩ := Att.script_of hn hpre hwl
  obtain ⟨fd, hb, hF⟩ := F w mg fa _ KX G.T.g hmg
  refine PySem.W.enter_call (codeAny_mono (law_call KX G.T.g G.T.b G.T.builtins G.T.nolimit hg ((tokB_of KX G.T.g (ht _)).mono tk) hobj hints (Nat.le_trans hlen hn2) hr hF hb (fun H hO hS => hsp w H a ns hlen hO hS) fun H e s' => hCX w H s₁ e s') fun r s' hq => ?_)
  obtain ⟨rfl, h2, h3, h4⟩ := hq
  exact ⟨.inl ⟨.bool true, .bool true, [], rfl, fun _ => rfl, .bool true, Att.post_true l _, fun _ => ⟨List.Pairwise.nil, fun _ hm => (nomatch hm)⟩⟩, h2, h3, h4⟩
end L2

namespace L2
open PySem PySem.Spec PyProof.Rows
/-! ### o.replace(GAP, ""): the name's token is older than the empty text's -/
def strike (c : Nat) (z : Str) : Str := ⟨(z.cps.toList.filter (· != c)).toArray⟩
theorem replace_is (z : Str) (c : Nat) : Txt.replace z ⟨#[c]⟩ ⟨#[]⟩ = strike c z := by
  have h := replace_strikes z c
  unfold strike
  rw [← h]
def tStrike (c : Nat) (to : TE) : TE := fun σ H Q => to σ H fun x H1 => ∃ z : Str, x = .str z ∧ z.cps.size ≤ 1000000 ∧ Q (.str (strike c z)) H1
section
variable {X : Cx} {o : Expr} {to : TE} {g : Str} {c j : Nat} {u : Tok} {apos cpos p1 p2 : Pos}
theorem pe_strike (ho : PE X o to) (hg : Gl X g) (hmg : X.mg g = some (.str ⟨#[c]⟩ u))
    (hbase : attributeBase o "replace" X.env (eval o X.env) = eval o X.env := by rfl)
    (hfew : ((backTo cpos (starEach [.Name g p1, .Constant (.str "") j p2] X.env)).all (fun x => !x.1) && (backToKw cpos (keywordEach [] X.env)).all (fun x => x.1.isSome)
      && decide (([.Name g p1, .Constant (.str "") j p2] : List Expr).length + ([] : List Keyword).length + (if ([] : List Keyword).isEmpty then 0 else 1) < 30)) = true := by rfl)
    (hline : (apos.endLine == cpos.line) = true := by rfl) (hs : starEach [.Name g p1, .Constant (.str "") j p2] X.env = [(false, eval (.Name g p1) X.env), (false, eval (.Constant (.str "") j p2) X.env)] := by rfl)
    (hd : (g == ("__debug__" : Str)) = false := by decide) :
    PE X (.Call (.Attribute o "replace" apos) [.Name g p1, .Constant (.str "") j p2] [] cpos) (tStrike c to) := by
  intro pins s σ H Q I h
  refine wpAny_Call_method_late hbase hfew hline rfl (thn (ho pins s σ H _ I h) fun v s1 ⟨x, H1, I1, r1, q1⟩ => ?_)
  obtain ⟨z, rfl, hz, q⟩ := q1
  obtain ⟨h1, h2⟩ := tyV_is (T := "str") I1 r1 rfl
  obtain ⟨t, rfl⟩ := r1
  refine ⟨"str", _, F.plainAttrs_str, F.slot_str_replace, F.type_str_replace, h1, h2, ?_⟩
  rw [hs]
  refine Calls.callWith_builtin rfl (Calls.evalArgs_plain ?_)
  refine Calls.spliced_cons (ld_glob I1 hg hmg ?_ hd)
  show wpAny _ _ (spliced [(false, eval (.Constant (.str "") j p2) X.env)]) _ _ s1
  refine Calls.spliced_cons (Calls.Constant_str (Calls.spliced_nil ?_))
  obtain ⟨k1, k2⟩ := I1.tk g _ _ hmg
  have I2 : Inv X pins σ H1 { s1 with toks := s1.toks + 1 } := I1.tok _
  refine TK.wpAny_up (Nat.le_refl (s1.toks + 1)) (SC.replace (s := { s1 with toks := s1.toks + 1 }) k2 (Nat.ne_of_gt (Nat.lt_of_le_of_lt (Nat.zero_le u) k1)) (Nat.ne_of_lt k1) ?_ ?_ fun t' k hk => ?_)
  · show (((⟨#[c]⟩ : Str)) == ((⟨#[]⟩ : Str))) = false
    exact beq_eq_false_iff_ne.mpr fun e => by cases e
  · show z.cps.size + (z.cps.size + 1) * 0 ≤ 16777216
    omega
  · refine ⟨.str (strike c z), H1, I2.tok k hk, ⟨t', ?_⟩, q⟩
    rw [← replace_is]; rfl
end
end L2
namespace L2
open PySem PySem.Spec PyProof.Rows
/-! ### "".join of signs -/
abbrev sg (c : Nat) : V := .str ⟨#[c]⟩
theorem vals_signs : ∀ {cs : List Nat} {us : List Value}, Vals (cs.map sg) us → ∃ l : List (Str × Tok), us = strValues l ∧ l.map (·.1) = cs.map fun c => (⟨#[c]⟩ : Str)
  | [], _, .nil => ⟨[], rfl, rfl⟩
  | c :: cs, _, .cons r rs => by
    obtain ⟨t, e⟩ := r
    obtain ⟨l, e1, e2⟩ := vals_signs rs
    exact ⟨(⟨#[c]⟩, t) :: l, by rw [e, e1]; rfl, by rw [List.map_cons, e2]; rfl⟩
theorem fold_ones : ∀ (l : List Nat) (n : Nat), (l.map fun c => (⟨#[c]⟩ : Str)).foldl (fun a (x : Str) => a + x.length + (⟨#[]⟩ : Str).length) n = n + l.length
  | [], _ => rfl
  | c :: l, n => by
    rw [List.map_cons, List.foldl_cons, fold_ones l]
    show n + 1 + 0 + l.length = n + (l.length + 1)
    omega
theorem mt_joinK {X : Cx} {K' : PySem.W.Frag} (hK : X.K = K') : MtR X "str.join" (fun x xs H Q => ∃ (l : Addr) (cs : List Nat), x = .str ⟨#[]⟩ ∧ xs = [.ref l] ∧ SqL K' H l (cs.map sg) ∧ cs.length ≤ 100000 ∧ Q (.str ⟨cs.toArray⟩) H) := by
  subst hK
  intro pins s σ H x xs v us Q I rx rs h
  obtain ⟨l, cs, rfl, rfl, hl, hn, q⟩ := h
  obtain ⟨t, rfl⟩ := rx
  cases rs with
  | cons r rr =>
    cases rr
    cases r
    obtain ⟨its, r1, t1, _⟩ := I.list hl
    obtain ⟨ls, e1, e2⟩ := vals_signs r1
    refine TK.wpAny_up (Nat.le_refl s.toks) (SC.join (l := ls) (by rw [← e1]; exact t1.isList) e2 ?_ fun t' k hk => ⟨.str ⟨cs.toArray⟩, H, I.tok k hk, ⟨t', ?_⟩, q⟩)
    · unfold JoinOk
      rw [List.foldl_toArray, fold_ones]
      unfold Builtin.Str.tooLong
      rw [Bool.not_eq_true', decide_eq_false_iff_not, Nat.zero_add]
      exact Nat.not_lt.mpr (Nat.le_trans hn (by decide))
    · have e : Txt.join ⟨#[]⟩ (cs.map fun c => (⟨#[c]⟩ : Str)) = ⟨cs.toArray⟩ := by
        show Builtin.Str.glued _ _ = _
        rw [StrLaws.glued_eq_join, join_ones]
      rw [e]
theorem mt_join {X : Cx} : MtR X "str.join" (fun x xs H Q => ∃ (l : Addr) (cs : List Nat), x = .str ⟨#[]⟩ ∧ xs = [.ref l] ∧ SqL X.K H l (cs.map sg) ∧ cs.length ≤ 100000 ∧ Q (.str ⟨cs.toArray⟩) H) := mt_joinK rfl
/-! ### lists of one length held against one another -/
theorem op_eqL {X : Cx} (hu : X.A.units < cLine) : OpR X (compareOp .Eq) (fun x y H Q => ∃ p q xs ys, x = .ref p ∧ y = .ref q ∧ SqL X.K H p xs ∧ SqL X.K H q ys ∧ xs.length = ys.length ∧ xs.all flatV = true ∧ ys.all flatV = true ∧ Q (.bl (tupEq xs ys)) H) := by
  intro pins s σ H x y v u Q I rx ry h
  obtain ⟨p, q, xs, ys, rfl, rfl, hp, hq, hl, fx, fy, k⟩ := h
  cases rx
  cases ry
  obtain ⟨us, r1, t1, _⟩ := I.list hp
  obtain ⟨vs, r2, t2, _⟩ := I.list hq
  have hsz : us.toArray.size = vs.toArray.size := by rw [List.size_toArray, List.size_toArray, ← r1.length, ← r2.length, hl]
  refine SeqAt.RcAt.lists (A := X.A) (s := s) t1.isList t2.isList hsz hu (flat_at r1 r2 fx fy) X.prog X.w X.xe _ ⟨.bl (tupEq xs ys), H, I, ?_, k⟩
  unfold tupEq
  have e1 : min xs.length ys.length = us.toArray.size := by rw [← hl, Nat.min_self, r1.length, List.size_toArray]
  have e2 : (xs.length == ys.length) = true := by rw [hl]; exact beq_self_eq_true _
  rw [e1, e2, Bool.and_true]
  rfl
end L2

namespace L2
open PySem PySem.Spec PyProof.Rows
/-! ### a promise with both ends, where the call never raises -/
def nv (sp : Sp) : Sp := fun vs H Q _ => sp vs H Q fun _ _ _ => False
theorem FnOk.nv {P : Program} {w : World} {K : PySem.W.Frag} {mg : Str → Option Value} {base : Heap} {k : Nat} {f : Addr} {fd : FuncData} {ps : List Str} {sp : Sp} (F : FnOk P w K mg base (CXs P w) k f fd ps sp) : FnOk P w K mg base CX0 k f fd ps (nv sp) :=
  ⟨fun vs H Q E q => F.len vs H Q _ q, fun A outer s H args us vs Q E hr he hb hv hs => codeAny_mono (F.run A outer s H args us vs Q _ hr he hb hv hs) fun r s' h => by
    cases r with
    | error e => obtain ⟨ea, cls, od, H', h⟩ := h; exact (h.2.2.2.2.2.2.2 : False).elim
    | ok fl => cases fl <;> exact h⟩
/-! ### comprehensions that leave all else as it was -/
theorem cm_map {J : It} {g : TG} {te : TE} {σ' : St} {H1 : Hp} {D : Hp → Prop} {l : Addr} (n : Nat) (f : Nat → V) (hl : H1 l = none) (hn : n < sizeLine)
    (go : ∀ i H, Same H1 H → i < n → J.go i H) (st : ∀ H, Same H1 H → J.stop n H)
    (el : ∀ i x H H3 (R : VK), Same H1 H → i < n → J.yld i H x H3 → (∀ H5, Same H H5 → R (f i) H5) → g x σ' H3 fun σ4 H4 => Kp σ' σ4 ∧ te σ4 H4 R)
    (fin : ∀ H', Same H1 H' → H' l = some (.lst ((List.range n).map f)) → D H') :
    ∃ W : Nat → Nat → List V → Hp → Prop, (∃ m, W 0 m [] (upd H1 l (.lst []))) ∧ ∀ i m ys H2, W i m ys H2 → (J.stop i H2 ∧ D H2) ∨
      (J.go i H2 ∧ ∀ x H3, J.yld i H2 x H3 → g x σ' H3 fun σ4 H4 => Kp σ' σ4 ∧ te σ4 H4 fun y H5 => H5 l = some (.lst ys) ∧ ys.length < sizeLine ∧ ∃ m', m' < m ∧ W (i + 1) m' (ys ++ [y]) (upd H5 l (.lst (ys ++ [y])))) := by
  refine ⟨fun i m ys H2 => m = n - i ∧ i ≤ n ∧ ys = (List.range i).map f ∧ Same H1 H2 ∧ H2 l = some (.lst ys), ⟨n, rfl, Nat.zero_le _, rfl, GP.Same.upd hl, upd_same⟩, ?_⟩
  rintro i m ys H2 ⟨rfl, hi, rfl, s2, h2⟩
  by_cases hlt : i < n
  · refine .inr ⟨go i H2 s2 hlt, fun x H3 y => el i x H2 H3 _ s2 hlt y fun H5 s5 => ?_⟩
    refine ⟨s5 _ _ h2, by rw [List.length_map, List.length_range]; omega, n - (i + 1), by omega, rfl, hlt, ?_, GP.Same.at (s2.trans s5) hl, upd_same⟩
    rw [List.range_succ, List.map_append]; rfl
  · have e : i = n := by omega
    subst e
    exact .inl ⟨st H2 s2, fin H2 s2 h2⟩
end L2
namespace GP
open PySem L2 GwM
/-! ### rows of things -/
def Rw (K : PySem.W.Frag) (H : Hp) (v : V) (rs : List Str) : Prop := ∃ a, v = .ref a ∧ (SqL K H a (rs.map V.str) ∨ SqT K H a (rs.map V.str))
theorem Rw.same {K : PySem.W.Frag} {H H' : Hp} {v : V} {rs : List Str} (h : Rw K H v rs) (e : Same H H') : Rw K H' v rs := by
  obtain ⟨a, h1, h2⟩ := h
  exact ⟨a, h1, h2.imp (Same.seq e) (Same.tup e)⟩
theorem Rw.cp {K : PySem.W.Frag} {H : Hp} {v : V} {rs : List Str} (h : Rw K H v rs) : ∃ c : Cp, v = c.val ∧ ∀ H', Same H H' → c.at K H' (rs.map V.str) := by
  obtain ⟨a, rfl, h | h⟩ := h
  · exact ⟨.lst a, rfl, fun H' e => Same.seq e h⟩
  · exact ⟨.tup a, rfl, fun H' e => Same.tup e h⟩
theorem Rw.len {K : PySem.W.Frag} {H : Hp} {v : V} {rs : List Str} (h : Rw K H v rs) : LenV K v H rs.length := by
  obtain ⟨a, rfl, h | h⟩ := h
  · exact .inl ⟨_, h, by rw [List.length_map]⟩
  · exact .inr ⟨_, h, by rw [List.length_map]⟩
theorem Rw.ix {K : PySem.W.Frag} {H : Hp} {v : V} {rs : List Str} {i : Nat} {r : Str} {Q : VK} (h : Rw K H v rs) (e : rs[i]? = some r) (q : Q (.str r) H) : rIx K v (.int (i : Int)) H Q := by
  obtain ⟨a, rfl, h | h⟩ := h
  · exact .inl ⟨a, _, _, _, rfl, rfl, h, atI_nat (by rw [List.getElem?_map, e]; rfl), q⟩
  · exact .inr (.inl ⟨a, _, _, _, rfl, rfl, h, atI_nat (by rw [List.getElem?_map, e]; rfl), q⟩)
structure SmR (rs : List Str) : Prop where
  len : rs.length ≤ 100
  row : ∀ r ∈ rs, r.cps.size ≤ 1000
def colL (rs : List Str) (n : Nat) : List Nat := rs.map fun r => r.cps.toList.getD n 0
def colS (rs : List Str) (n : Nat) : Str := ⟨(colL rs n).toArray⟩
def cols (rs : List Str) (n : Nat) : List Str := (List.range n).map (colS rs)
def gapsB (x : Str) : Bool := x.cps.toList.all (· == 45)
def thingsB (x : Str) : Bool := (strike 45 x).cps.toList.all isSignN
def lenB : List Str → Bool
  | [] => false
  | r :: rs => (r :: rs).all fun x => x.cps.size == r.cps.size
def wid (rs : List Str) : Nat := (rs.headD ⟨#[]⟩).cps.size
def colsB (rs : List Str) : Bool := (cols rs (wid rs)).all fun c => !gapsB c
def blockB (rs : List Str) : Bool := lenB rs && (rs.all thingsB && colsB rs)
theorem lenB_iff {rs : List Str} : lenB rs = true ↔ rs ≠ [] ∧ ∀ r ∈ rs, r.cps.size = wid rs := by
  cases rs with
  | nil => exact ⟨fun h => (by cases h), fun h => absurd rfl h.1⟩
  | cons r rs =>
    show ((r :: rs).all fun x => x.cps.size == r.cps.size) = true ↔ _
    rw [List.all_eq_true]
    exact ⟨fun h => ⟨by simp, fun x hx => eq_of_beq (h x hx)⟩, fun h x hx => beq_iff_eq.mpr (h.2 x hx)⟩
theorem gaps_eq {x : Str} : decide (V.str x = V.str (repS (Str.ofString "-") (x.length : Nat))) = gapsB x := by
  have e : (repS (Str.ofString "-") (x.length : Nat)).cps.toList = List.replicate x.cps.toList.length 45 := by
    rw [repS_list]
    show (List.replicate x.cps.size [45]).flatten = _
    rw [Array.length_toList]
    generalize x.cps.size = n
    induction n with
    | zero => rfl
    | succ n ih => rw [List.replicate_succ, List.flatten_cons, ih, List.replicate_succ]; rfl
  rw [Bool.eq_iff_iff, decide_eq_true_iff]
  unfold gapsB
  rw [List.all_eq_true]
  refine ⟨fun h c hc => ?_, fun h => ?_⟩
  · injection h with h
    rw [h, e] at hc
    exact beq_iff_eq.mpr (List.eq_of_mem_replicate hc)
  · have z : x.cps.toList = List.replicate x.cps.toList.length 45 := List.eq_replicate_of_mem fun c hc => eq_of_beq (h c hc)
    rw [← e] at z
    have : x.cps = (repS (Str.ofString "-") (x.length : Nat)).cps := Array.toList_inj.mp z
    have e2 : x = repS (Str.ofString "-") (x.length : Nat) := by
      rcases h3 : repS (Str.ofString "-") (x.length : Nat) with ⟨cs⟩
      rw [h3] at this
      rcases x with ⟨xs⟩
      exact congrArg Str.mk this
    rw [← e2]
/-! ### promises -/
def spThingsAt (K : PySem.W.Frag) : Sp := fun vs H Q _ => ∃ (v : V) (rs : List Str) (n : Nat), vs = [v, .int n] ∧ Rw K H v rs ∧ SmR rs ∧ (∀ r ∈ rs, n < r.cps.size) ∧ ∀ H', Same H H' → Q (.str (colS rs n)) H'
def spTurned (K : PySem.W.Frag) : Sp := fun vs H Q _ => ∃ (v : V) (rs : List Str) (n : Nat), vs = [v, .int n] ∧ Rw K H v rs ∧ SmR rs ∧ n ≤ 1000 ∧ (∀ r ∈ rs, n ≤ r.cps.size) ∧
  ∀ l H', Same H H' → H l = none → H' l = some (.lst ((cols rs n).map V.str)) → Q (.ref l) H'
def spColumns (K : PySem.W.Frag) : Sp := fun vs H Q _ => ∃ (v : V) (rs : List Str), vs = [v] ∧ Rw K H v rs ∧ SmR rs ∧ lenB rs = true ∧
  ∀ l H', Same H H' → H l = none → H' l = some (.lst ((cols rs (wid rs)).map V.str)) → Q (.ref l) H'
def spIsGaps : Sp := fun vs H Q _ => ∃ x : Str, vs = [.str x] ∧ x.cps.size ≤ 1000 ∧ Q (.bl (gapsB x)) H
def spSignsOf : Sp := fun vs H Q _ => ∃ x : Str, vs = [.str x] ∧ x.cps.size ≤ 1000 ∧ Q (.str (strike 45 x)) H
def spAreThings : Sp := fun vs H Q _ => ∃ x : Str, vs = [.str x] ∧ x.cps.size ≤ 1000 ∧ ∀ H', Same H H' → Q (.bl (thingsB x)) H'
def spChk (K : PySem.W.Frag) (C : Addr) (pre p : List Str → Bool) : Sp := fun vs H Q E => ∃ (v : V) (rs : List Str), vs = [v] ∧ Rw K H v rs ∧ SmR rs ∧ pre rs = true ∧
  (p rs = true → ∀ H', Same H H' → Q .non H') ∧ (p rs = false → ∀ H', Same H H' → E (.ref C) none H')
def Blk (K : PySem.W.Frag) (C : Addr) (H : Hp) (b : Addr) (rs : List Str) : Prop := ∃ dx q, H b = some (.ins C dx (putF "rows" (.ref q) [])) ∧ SqT K H q (rs.map V.str)
theorem Blk.same {K : PySem.W.Frag} {C : Addr} {H H' : Hp} {b : Addr} {rs : List Str} (h : Blk K C H b rs) (e : Same H H') : Blk K C H' b rs := by
  obtain ⟨dx, q, h1, h2⟩ := h
  exact ⟨dx, q, e _ _ h1, Same.tup e h2⟩
def spBlock (K : PySem.W.Frag) (C X : Addr) : Sp := fun vs H Q E => ∃ (b dx : Addr) (v : V) (rs : List Str), vs = [.ref b, v] ∧ H b = some (.ins C dx []) ∧ Rw K H v rs ∧ SmR rs ∧
  (blockB rs = true → ∀ H', (∀ a u, H a = some u → a ≠ b → H' a = some u) → Blk K C H' b rs → Q .non H') ∧ (blockB rs = false → ∀ H', Same H H' → E (.ref X) none H')
end GP

namespace L2
open PySem PySem.Spec PyProof.Rows
end L2
namespace GP
open PySem L2 GwM
theorem SqT.offI {K : PySem.W.Frag} {H : Hp} {l a C dx : Addr} {fs : List (Str × V)} {xs : List V} {o : HO} (hl : H l = some (.ins C dx fs)) (h : SqT K H a xs) : SqT K (L2.upd H l o) a xs := by
  rcases h with (h | ⟨u, h⟩) | h
  · exact .inl (.inl (by rw [upd_ne (ne_of h hl (by intro z; cases z))]; exact h))
  · exact .inl (.inr ⟨u, by rw [upd_ne (ne_of h hl (by intro z; cases z))]; exact h⟩)
  · exact .inr h
theorem rows_at {q : V} : (putF "rows" q []).lookup ("rows" : Str) = some q := by
  rw [lookup_putF, if_pos rfl]
theorem cols_at {rs : List Str} {n i : Nat} (h : i < n) : (cols rs n)[i]? = some (colS rs i) := by
  unfold cols
  rw [List.getElem?_map, List.getElem?_range h]
  rfl
theorem things_iff {x : Str} : thingsB x = true ↔ ∀ c ∈ x.cps.toList, c ≠ 45 → isSignN c = true := by
  unfold thingsB strike
  rw [List.all_eq_true]
  refine ⟨fun h c hc n => h c ?_, fun h c hc => ?_⟩
  · show c ∈ x.cps.toList.filter (· != 45)
    exact List.mem_filter.mpr ⟨hc, by simpa using n⟩
  · have hc' : c ∈ x.cps.toList.filter (· != 45) := hc
    obtain ⟨a, b⟩ := List.mem_filter.mp hc'
    exact h c a (by simpa using b)
end GP

namespace GP
open PySem L2 GwM
/-! ### what the law draws -/
def okT (c : Nat) : Prop := c = 45 ∨ isSignN c = true
structure RsOk (rs : List Str) (n i : Nat) : Prop where
  len : rs.length = n
  wid : ∀ r ∈ rs, r.cps.size = i
  ok : ∀ r ∈ rs, ∀ c ∈ r.cps.toList, okT c
  col : ∀ j, j < i → ∃ r ∈ rs, ∃ c, r.cps.toList[j]? = some c ∧ c ≠ 45
theorem RsOk.w {rs : List Str} {n i : Nat} (h : RsOk rs n i) (hn : 0 < n) : GP.wid rs = i := by
  cases hr : rs with
  | nil => have := h.len; rw [hr] at this; have : 0 = n := this; omega
  | cons r t => exact h.wid r (by rw [hr]; exact List.mem_cons_self ..)
theorem RsOk.lenB {rs : List Str} {n i : Nat} (h : RsOk rs n i) (hn : 0 < n) : GP.lenB rs = true := by
  refine lenB_iff.mpr ⟨fun z => ?_, fun r hr => (h.wid r hr).trans (h.w hn).symm⟩
  have := h.len
  rw [z] at this
  have : 0 = n := this
  omega
theorem RsOk.things {rs : List Str} {n i : Nat} (h : RsOk rs n i) : rs.all thingsB = true :=
  List.all_eq_true.mpr fun r hr => things_iff.mpr fun c hc hn => (h.ok r hr c hc).resolve_left hn
theorem gaps_col {rs : List Str} {j : Nat} : gapsB (colS rs j) = true ↔ ∀ r ∈ rs, r.cps.toList.getD j 0 = 45 := by
  unfold gapsB colS colL
  rw [List.all_eq_true]
  refine ⟨fun h r hr => eq_of_beq (h _ (List.mem_map.mpr ⟨r, hr, rfl⟩)), fun h c hc => ?_⟩
  obtain ⟨r, hr, rfl⟩ := List.mem_map.mp (show c ∈ rs.map fun r => r.cps.toList.getD j 0 from hc)
  exact beq_iff_eq.mpr (h r hr)
theorem RsOk.block {rs : List Str} {n i : Nat} (h : RsOk rs n i) (hn : 0 < n) : blockB rs = true := by
  unfold blockB
  rw [h.lenB hn, h.things, Bool.true_and, Bool.true_and]
  unfold colsB
  rw [h.w hn, List.all_eq_true]
  intro c hc
  unfold cols at hc
  obtain ⟨j, hj, rfl⟩ := List.mem_map.mp hc
  obtain ⟨r, hr, c, hc, hne⟩ := h.col j (List.mem_range.mp hj)
  rw [Bool.not_eq_true', Bool.eq_false_iff]
  intro z
  have := gaps_col.mp z r hr
  rw [List.getD_eq_getElem?_getD, hc] at this
  exact hne this
def grown (rs : List Str) (cs : List Nat) (n : Nat) : List Str := (List.range n).map fun r => rs.getD r ⟨#[]⟩ ++ ⟨#[cs.getD r 0]⟩
theorem getD_of {α : Type} {l : List α} {i : Nat} {d x : α} (h : l[i]? = some x) : l.getD i d = x := by
  rw [List.getD_eq_getElem?_getD, h]; rfl
theorem RsOk.next {rs : List Str} {n i : Nat} {cs : List Nat} (h : RsOk rs n i) (hl : cs.length = n) (ho : ∀ c ∈ cs, okT c) (hg : ∃ c ∈ cs, c ≠ 45) : RsOk (grown rs cs n) n (i + 1) := by
  have at_ : ∀ r, r < n → ∃ x c, rs[r]? = some x ∧ cs[r]? = some c ∧ x ∈ rs ∧ c ∈ cs ∧ rs.getD r ⟨#[]⟩ ++ ⟨#[cs.getD r 0]⟩ = x ++ (⟨#[c]⟩ : Str) := fun r hr => by
    have h1 : r < rs.length := by rw [h.len]; exact hr
    have h2 : r < cs.length := by rw [hl]; exact hr
    refine ⟨rs[r], cs[r], List.getElem?_eq_getElem h1, List.getElem?_eq_getElem h2, List.getElem_mem h1, List.getElem_mem h2, ?_⟩
    rw [getD_of (List.getElem?_eq_getElem h1), getD_of (List.getElem?_eq_getElem h2)]
  have mem : ∀ y ∈ grown rs cs n, ∃ x c, x ∈ rs ∧ c ∈ cs ∧ y = x ++ (⟨#[c]⟩ : Str) := fun y hy => by
    unfold grown at hy
    obtain ⟨r, hr, rfl⟩ := List.mem_map.mp hy
    obtain ⟨x, c, _, _, a, b, e⟩ := at_ r (List.mem_range.mp hr)
    exact ⟨x, c, a, b, e⟩
  have app : ∀ (x : Str) (c : Nat), (x ++ (⟨#[c]⟩ : Str)).cps.toList = x.cps.toList ++ [c] := fun x c => by
    rw [Str.cps_append, Array.toList_append]
  refine ⟨by unfold grown; rw [List.length_map, List.length_range], fun y hy => ?_, fun y hy d hd => ?_, fun j hj => ?_⟩
  · obtain ⟨x, c, a, b, rfl⟩ := mem y hy
    rw [← Array.length_toList, app, List.length_append, Array.length_toList, h.wid x a]
    rfl
  · obtain ⟨x, c, a, b, rfl⟩ := mem y hy
    rw [app] at hd
    rcases List.mem_append.mp hd with hd | hd
    · exact h.ok x a d hd
    · rw [List.mem_singleton.mp hd]; exact ho c b
  · by_cases z : j < i
    · obtain ⟨x, hx, c, hc, hne⟩ := h.col j z
      obtain ⟨r, hr, e⟩ := List.getElem_of_mem hx
      have hr' : r < n := by rw [← h.len]; exact hr
      obtain ⟨x', c', e1, _, _, _, e3⟩ := at_ r hr'
      rw [List.getElem?_eq_getElem hr, e] at e1
      cases e1
      refine ⟨_, List.mem_map.mpr ⟨r, List.mem_range.mpr hr', e3⟩, c, ?_, hne⟩
      rw [app, List.getElem?_append_left (by rw [Array.length_toList, h.wid x hx]; exact z), hc]
    · have ej : j = i := by omega
      subst ej
      obtain ⟨c, hc, hne⟩ := hg
      obtain ⟨r, hr, e⟩ := List.getElem_of_mem hc
      have hr' : r < n := by rw [← hl]; exact hr
      obtain ⟨x', c', e1, e2, hx', _, e3⟩ := at_ r hr'
      rw [List.getElem?_eq_getElem hr, e] at e2
      cases e2
      refine ⟨_, List.mem_map.mpr ⟨r, List.mem_range.mpr hr', e3⟩, c, ?_, hne⟩
      have hs : x'.cps.toList.length = j := by rw [Array.length_toList]; exact h.wid x' hx'
      rw [app, List.getElem?_append_right (by omega), hs, Nat.sub_self]
      rfl
end GP
namespace L2
open PySem PySem.Spec PyProof.Rows
end L2
namespace GP
open PySem L2 GwM
theorem tupEq_self {xs : List Str} : tupEq (xs.map V.str) (xs.map V.str) = true := by
  unfold tupEq
  rw [beq_self_eq_true, Bool.and_true, List.all_eq_true]
  intro j hj
  have hj' : j < xs.length := by
    have := List.mem_range.mp hj
    rw [Nat.min_self, List.length_map] at this
    exact this
  rw [getD_of (show (xs.map V.str)[j]? = some (V.str xs[j]) by rw [List.getElem?_map, List.getElem?_eq_getElem hj']; rfl)]
  show (xs[j] == xs[j]) = true
  exact beq_self_eq_true _
theorem flat_strs {xs : List Str} : (xs.map V.str).all flatV = true := List.all_eq_true.mpr fun y hy => by
  obtain ⟨x, _, rfl⟩ := List.mem_map.mp hy
  rfl
theorem sg_strs (cs : List Nat) : cs.map sg = (cs.map fun c => (⟨#[c]⟩ : Str)).map V.str := by rw [List.map_map]; rfl
theorem rep_flat (n : Nat) (v : V) : (List.replicate n [v]).flatten = List.replicate n v := by
  induction n with
  | zero => rfl
  | succ n ih => rw [List.replicate_succ, List.flatten_cons, ih, List.replicate_succ]; rfl
theorem not_all {cs : List Nat} {n : Nat} (hl : cs.length = n) (h : tupEq (cs.map sg) (List.replicate n (sg 45)) = false) : ∃ c ∈ cs, c ≠ 45 := by
  by_cases z : ∃ c ∈ cs, c ≠ 45
  · exact z
  · have e : cs = List.replicate n 45 := List.eq_replicate_iff.mpr ⟨hl, fun c hc => Classical.byContradiction fun hne => z ⟨c, hc, hne⟩⟩
    have e2 : List.replicate n (sg 45) = cs.map sg := by rw [e, List.map_replicate]
    rw [e2, sg_strs, tupEq_self] at h
    cases h
theorem sign_ne {c : Nat} (h : isSignN c = true) : c ≠ 45 := fun z => by rw [z] at h; exact absurd h (by decide)
end GP

namespace GP
open PySem L2 GwM
end GP
namespace GP
open PySem L2 GwM
end GP

namespace GP
open PySem L2 GwM
def spWith : Sp := fun vs H Q _ => ∃ (r z : Str) (k : Nat), vs = [.str r, .int (k : Int), .str z] ∧ k < r.cps.size ∧ r.cps.size ≤ 1000 ∧ z.cps.size ≤ 100 ∧ ∀ o : Str, o.cps.toList = r.cps.toList.take k ++ z.cps.toList ++ r.cps.toList.drop (k + 1) → Q (.str o) H
end GP

namespace GP
open PySem L2 GwM
def spRound (K : PySem.W.Frag) : Sp := fun vs H Q _ => ∃ (s t : Addr) (ns : List Int) (k : Int), vs = [.ref s, .ref t] ∧ Ctr K H s t ns k ∧ k ≤ 70000 ∧
  ∀ (k' : Int) (H' : Hp), Same (Wo t H) (Wo t H') → H' t = some (.lst [.int k']) → k ≤ k' → k' ≤ k + 2000 → Q (.bl true) H'
end GP
namespace GP
open PySem L2 GwM
end GP
namespace L2
end L2

namespace GP
open PySem L2 GwM
structure Da (K : PySem.W.Frag) (mg : Str → Option Value) (x y : Str) (st : Stmt) (ps : List Str) (f : Addr) (fd : FuncData) : Prop where
  fn : Fun K y y st f fd
  b : Binds K fd ps []
  m : mg x = some (.ref f)
end GP
namespace L2
open PySem PySem.Spec PyProof.Rows
/-! ### the sum of a list of ints -/
theorem preSum_take (ns : List Int) : ∀ n : Nat, preSum (fun i => (ns[i]?).getD 0) n = (ns.take n).sum
  | 0 => rfl
  | n + 1 => by
    show preSum _ n + (ns[n]?).getD 0 = _
    rw [preSum_take ns n]
    by_cases hn : n < ns.length
    · rw [List.take_add_one, List.getElem?_eq_getElem hn, List.sum_append]
      simp
    · rw [List.getElem?_eq_none (by omega), List.take_of_length_le (by omega), List.take_of_length_le (by omega)]
      simp
theorem ints_get : ∀ {ns : List Int} {us : List Value}, Vals (ns.map V.int) us → ∀ (i : Nat) (v : Value), us[i]? = some v → ∃ n t, ns[i]? = some n ∧ v = .int n t
  | [], _, r, i, v, e => by
    cases r
    simp at e
  | n :: ns, _, r, i, v, e => by
    cases r with
    | cons r1 r2 =>
      cases i with
      | zero =>
        simp at e
        subst e
        obtain ⟨t, z⟩ := r1
        exact ⟨n, t, rfl, z⟩
      | succ i => exact ints_get r2 i v e
theorem call_sumK {X : Cx} {K' : PySem.W.Frag} (hK : X.K = K') (hc : X.calm = true) : CallR X (.builtin "sum") (fun xs H Q => ∃ (l : Addr) (ns : List Int), xs = [.ref l] ∧ SqL K' H l (ns.map V.int) ∧ Q (.int ns.sum) H) := by
  subst hK
  intro pins s σ H xs us Q I r h
  obtain ⟨l, ns, rfl, hl, q⟩ := h
  obtain ⟨u, rfl, ru⟩ := vals1 r
  cases ru
  obtain ⟨its, rv, p, hz⟩ := I.list hl
  have pl : s.heap.IsList l its.toArray := p.isList
  have hlt : l < s.heap.objs.size := by obtain ⟨_, e, _⟩ := pl; exact Heap.lt_size e
  have hlen : ns.length = its.length := by rw [← rv.length, List.length_map]
  refine TK.wpAny_up (Nat.le_refl s.toks) ?_
  refine call_sum_walkG (wpAny_pyIter_list pl ?_)
  refine ⟨s.heap.objs.size, [s.heap.objs.size, l], [s.heap.objs.size], its.toArray.size, _, _, fun i => (ns[i]?).getD 0, rfl, Walks.list (A := X.A.in1) (I.ok.hd hc) _ l (Nat.ne_of_lt hlt) its.toArray,
    ⟨⟨_, Heap.get?_push_size _ rfl, rfl, rfl⟩, pl.push _⟩, fun b hb => ?_, fun i v hP => ?_, fun h' tk t' hk hup => ?_⟩
  · show b < (s.heap.push _).objs.size
    rw [Heap.size_push]
    rcases List.mem_cons.mp hb with rfl | z
    · exact Nat.lt_succ_self _
    · rw [List.mem_singleton.mp z]
      exact Nat.lt_succ_of_lt hlt
  · obtain ⟨n, t, e, rfl⟩ := ints_get rv i v (by simpa using hP)
    exact ⟨t, by show _ = Value.int ((ns[i]?).getD 0) t; rw [e]; rfl⟩
  · rw [preSum_take, List.size_toArray, ← hlen, List.take_length]
    refine ⟨.int ns.sum, H, I.kept (t' := tk) (fun b x e => hk b x (fun hm => ?_) (Heap.get?_push_of_some _ e)), ⟨_, rfl⟩, q⟩
    rw [List.mem_singleton.mp hm] at e
    exact Nat.lt_irrefl _ (Heap.lt_size e)
end L2

namespace GP
open PySem L2 GwM
/-! ### sums -/
def sm (f : Nat → Int) : Nat → Int
  | 0 => 0
  | n + 1 => sm f n + f n
theorem sm_congr {f g : Nat → Int} : ∀ {n : Nat}, (∀ i, i < n → f i = g i) → sm f n = sm g n
  | 0, _ => rfl
  | n + 1, h => by
    show sm f n + f n = sm g n + g n
    rw [sm_congr fun i hi => h i (by omega), h n (by omega)]
theorem sm_zero : ∀ n : Nat, sm (fun _ => 0) n = 0
  | 0 => rfl
  | n + 1 => by show sm (fun _ => 0) n + 0 = 0; rw [sm_zero n]; rfl
theorem sm_add (f g : Nat → Int) : ∀ n : Nat, sm (fun i => f i + g i) n = sm f n + sm g n
  | 0 => rfl
  | n + 1 => by show sm (fun i => f i + g i) n + (f n + g n) = sm f n + f n + (sm g n + g n); rw [sm_add f g n]; omega
theorem sm_comm (f : Nat → Nat → Int) (m : Nat) : ∀ n : Nat, sm (fun i => sm (f i) m) n = sm (fun j => sm (fun i => f i j) n) m
  | 0 => (sm_zero m).symm
  | n + 1 => by
    show sm (fun i => sm (f i) m) n + sm (f n) m = sm (fun j => sm (fun i => f i j) n + f n j) m
    rw [sm_add, sm_comm f m n]
theorem sm_cut (f : Nat → Int) {r : Nat} : ∀ {n : Nat}, r ≤ n → sm f r = sm (fun i => if i < r then f i else 0) n
  | 0, h => by have : r = 0 := by omega
               rw [this]; rfl
  | n + 1, h => by
    show _ = sm (fun i => if i < r then f i else 0) n + (if n < r then f n else 0)
    by_cases e : r = n + 1
    · rw [e, if_pos (by omega)]
      show sm f n + f n = _
      rw [sm_congr (f := f) fun i hi => (if_pos (show i < n + 1 by omega)).symm]
    · rw [sm_cut f (show r ≤ n by omega), if_neg (by omega), Int.add_zero]
theorem sm_tri (g : Nat → Nat → Nat → Int) (n w : Nat) :
    sm (fun k => sm (fun r => sm (fun i => g k i r) r) n) w = sm (fun i => sm (fun j => if i < j then sm (fun k => g k i j) w else 0) n) n := by
  rw [sm_congr fun k _ => sm_congr fun r hr => sm_cut (fun i => g k i r) (Nat.le_of_lt hr)]
  rw [sm_comm (fun k r => sm (fun i => if i < r then g k i r else 0) n) n w]
  rw [sm_congr fun r _ => sm_comm (fun k i => if i < r then g k i r else 0) n w]
  rw [sm_comm (fun r i => sm (fun k => if i < r then g k i r else 0) w) n n]
  refine sm_congr fun i _ => sm_congr fun r _ => ?_
  by_cases h : i < r
  · rw [if_pos h]; exact sm_congr fun k _ => if_pos h
  · rw [if_neg h]; exact (sm_congr fun k _ => if_neg h).trans (sm_zero w)
theorem sum_snoc (l : List Int) (x : Int) : (l ++ [x]).sum = l.sum + x := by rw [List.sum_append]; simp
theorem sm_range (f : Nat → Int) : ∀ n : Nat, ((List.range n).map f).sum = sm f n
  | 0 => rfl
  | n + 1 => by rw [List.range_succ, List.map_append, List.map_singleton, sum_snoc, sm_range f n]; rfl
/-! ### what a block costs -/
def knS (sg : Str) : Str := sg ++ Str.ofString "-"
theorem knS_mem {sg : Str} {c : Nat} : c ∈ (knS sg).cps.toList ↔ c = 45 ∨ c ∈ sg.cps.toList := by
  have e : (knS sg).cps.toList = sg.cps.toList ++ [45] := strApp _ _
  rw [e, List.mem_append, List.mem_singleton]
  exact Or.comm
def tcF (sg : Str) (rows : List (List Fra)) (fo fm : Fra) (a b : Nat) : Int :=
  if a = 45 ∧ b = 45 then 0 else if a = 45 ∨ b = 45 then fm.1 * (unitOf fo.2 fm.2 rows / fm.2) else pcF sg rows (unitOf fo.2 fm.2 rows) a b
def colC (tc : Nat → Nat → Int) (L : List Nat) (n : Nat) : Int := sm (fun r => sm (fun i => tc (L.getD i 0) (L.getD r 0)) r) n
def blkC (tc : Nat → Nat → Int) (rs : List Str) : Int := sm (fun k => colC tc (colL rs k) rs.length) (wid rs)
def BadR (kn : Str) (rs : List Str) (i j : Nat) : Prop :=
  (∃ r c, rs[i]? = some r ∧ r.cps[j]? = some c ∧ c ∉ kn.cps.toList ∧ ∀ k d, k < j → r.cps[k]? = some d → d ∈ kn.cps.toList) ∧ ∀ m r, m < i → rs[m]? = some r → Of kn r
def spKnownR (K : PySem.W.Frag) (C : Addr) : Sp := fun vs H Q E => ∃ (kn : Str) (v : V) (rs : List Str), vs = [.str kn, v] ∧ Rw K H v rs ∧ SmR rs ∧
  ((∀ r ∈ rs, Of kn r) → ∀ H', Same H H' → Q .non H') ∧ (∀ i j, BadR kn rs i j → ∀ dx H', Same H H' → H' dx = some (xdO dx (fldS i j)) → E (.ref C) (some dx) H')
def spBlockRows (K : PySem.W.Frag) (C X : Addr) : Sp := fun vs H Q E => ∃ (x : Addr) (sg : Str) (rows : List (List Fra)) (fo fm : Fra) (v : V) (rs : List Str), vs = [.ref x, v] ∧ PrAt K C H x sg rows fo fm ∧ Rw K H v rs ∧ SmR rs ∧
  ((∀ r ∈ rs, Of (knS sg) r) → ∀ H', Same H H' → Q .non H') ∧ (∀ i j, BadR (knS sg) rs i j → ∀ dx H', Same H H' → H' dx = some (xdO dx (fldS i j)) → E (.ref X) (some dx) H')
def spThing (K : PySem.W.Frag) (C : Addr) : Sp := fun vs H Q _ => ∃ (x : Addr) (sg : Str) (rows : List (List Fra)) (fo fm : Fra) (a b : Nat), vs = [.ref x, .str ⟨#[a]⟩, .str ⟨#[b]⟩] ∧ PrAt K C H x sg rows fo fm ∧ a ∈ (knS sg).cps.toList ∧ b ∈ (knS sg).cps.toList ∧
  ∀ H', Same H H' → Q (.int (tcF sg rows fo fm a b)) H'
def spColCost (K : PySem.W.Frag) (C : Addr) : Sp := fun vs H Q _ => ∃ (x : Addr) (sg : Str) (rows : List (List Fra)) (fo fm : Fra) (c : Str), vs = [.ref x, .str c] ∧ PrAt K C H x sg rows fo fm ∧ Of (knS sg) c ∧ c.cps.size ≤ 100 ∧
  ∀ H', Same H H' → Q (.int (colC (tcF sg rows fo fm) c.cps.toList c.cps.size)) H'
def spBlkUnits (K : PySem.W.Frag) (C CB : Addr) : Sp := fun vs H Q _ => ∃ (x b : Addr) (sg : Str) (rows : List (List Fra)) (fo fm : Fra) (rs : List Str), vs = [.ref x, .ref b] ∧ PrAt K C H x sg rows fo fm ∧ Blk K CB H b rs ∧ SmR rs ∧ lenB rs = true ∧ (∀ r ∈ rs, Of (knS sg) r) ∧
  ∀ H', Same H H' → Q (.int (blkC (tcF sg rows fo fm) rs)) H'
def spBlkCost (K : PySem.W.Frag) (C CB X : Addr) : Sp := fun vs H Q E => ∃ (x b : Addr) (sg : Str) (rows : List (List Fra)) (fo fm : Fra) (rs : List Str), vs = [.ref x, .ref b] ∧ PrAt K C H x sg rows fo fm ∧ Blk K CB H b rs ∧ SmR rs ∧ lenB rs = true ∧
  ((∀ r ∈ rs, Of (knS sg) r) → ∀ q H', Same H H' → H q = none → H' q = some (.tup [.int (loF (blkC (tcF sg rows fo fm) rs, unitOf fo.2 fm.2 rows)).1, .int (loF (blkC (tcF sg rows fo fm) rs, unitOf fo.2 fm.2 rows)).2]) → Q (.ref q) H') ∧
  (∀ i j, BadR (knS sg) rs i j → ∀ dx H', Same H H' → H' dx = some (xdO dx (fldS i j)) → E (.ref X) (some dx) H')
end GP
namespace GP
open PySem L2 GwM
theorem gapD (c : Nat) : decide (V.str ⟨#[c]⟩ = V.str (Str.ofString "-")) = decide (c = 45) := by
  rw [Bool.eq_iff_iff, decide_eq_true_iff, decide_eq_true_iff]
  refine ⟨fun h => ?_, fun h => by rw [h]; rfl⟩
  have h' : (⟨#[c]⟩ : Str) = ⟨#[45]⟩ := by injection h
  injection h' with h'
  simpa using h'
theorem tcF_gg {sg : Str} {rows : List (List Fra)} {fo fm : Fra} {a b : Nat} (h : a = 45) (h2 : b = 45) : tcF sg rows fo fm a b = 0 := if_pos ⟨h, h2⟩
theorem tcF_g {sg : Str} {rows : List (List Fra)} {fo fm : Fra} {a b : Nat} (h : ¬ (a = 45 ∧ b = 45)) (h2 : a = 45 ∨ b = 45) : tcF sg rows fo fm a b = fm.1 * (unitOf fo.2 fm.2 rows / fm.2) := (if_neg h).trans (if_pos h2)
theorem tcF_p {sg : Str} {rows : List (List Fra)} {fo fm : Fra} {a b : Nat} (h : a ≠ 45) (h2 : b ≠ 45) : tcF sg rows fo fm a b = pcF sg rows (unitOf fo.2 fm.2 rows) a b := (if_neg fun z => h z.1).trans (if_neg fun z => z.elim h h2)
end GP

namespace GP
open PySem L2 GwM
/-! ### what k41 draws -/
theorem turn_ne {a tv : Int} {i j : Nat} (ht : tv = 1 ∨ tv = 3 ∨ tv = 5 ∨ tv = 7 ∨ tv = 9 ∨ tv = 11) (hij : i < j) (hj : j < 6) : ((a + (i : Int) * tv) % 92).toNat ≠ ((a + (j : Int) * tv) % 92).toNat := by
  rcases ht with rfl | rfl | rfl | rfl | rfl | rfl <;> omega
theorem nodup_pick {L : List Nat} {p : Nat → Nat} (hL : L.Nodup) (n : Nat) (hp : ∀ i, i < n → p i < L.length) (hne : ∀ i j, i < j → j < n → p i ≠ p j) : ((List.range n).map fun i => L.getD (p i) 0).Nodup := by
  rw [List.Nodup, List.pairwise_map]
  refine List.Pairwise.imp_of_mem ?_ (List.pairwise_lt_range (n := n))
  intro i j hi hj hij z
  have h1 := hp i (List.mem_range.mp hi)
  have h2 := hp j (List.mem_range.mp hj)
  rw [getD_of (List.getElem?_eq_getElem h1), getD_of (List.getElem?_eq_getElem h2)] at z
  exact hne i j hij (List.mem_range.mp hj) ((List.getElem_inj hL).mp z)
def incB : List Nat → Bool
  | a :: b :: r => decide (a < b) && incB (b :: r)
  | _ => true
theorem incB_lt : ∀ {a : Nat} {l : List Nat}, incB (a :: l) = true → (∀ c ∈ l, a < c) ∧ incB l = true
  | a, [], _ => ⟨fun c hc => (nomatch hc), rfl⟩
  | a, b :: r, h => by
    have h' : (decide (a < b) && incB (b :: r)) = true := h
    rw [Bool.and_eq_true] at h'
    have h1 := of_decide_eq_true h'.1
    refine ⟨fun c hc => ?_, h'.2⟩
    rcases List.mem_cons.mp hc with rfl | hc
    · exact h1
    · exact Nat.lt_trans h1 ((incB_lt h'.2).1 c hc)
theorem incB_nodup : ∀ {l : List Nat}, incB l = true → l.Nodup
  | [], _ => List.nodup_nil
  | a :: l, h => List.nodup_cons.mpr ⟨fun z => Nat.lt_irrefl _ ((incB_lt h).1 a z), incB_nodup (incB_lt h).2⟩
theorem bg_cell40 (e : Int) : Sm (e % ((10 : Int) ^ (40 : Int).toNat) - 5 * (10 : Int) ^ (39 : Int).toNat) := by
  have e1 : (10 : Int) ^ (40 : Int).toNat = 10000000000000000000000000000000000000000 := by decide
  have e2 : (10 : Int) ^ (39 : Int).toNat = 1000000000000000000000000000000000000000 := by decide
  rw [e1, e2]
  have h1 := Int.emod_nonneg e (show (10000000000000000000000000000000000000000 : Int) ≠ 0 by decide)
  have h2 := Int.emod_lt_of_pos e (show (0 : Int) < 10000000000000000000000000000000000000000 by decide)
  exact bg_small (by omega) (by omega)
def spSignsC (K : PySem.W.Frag) : Sp := fun vs H Q _ => ∃ (s t : Addr) (ns : List Int) (k : Int) (n : Nat), vs = [.ref s, .ref t, .int n] ∧ Ctr K H s t ns k ∧ k ≤ 100000 ∧ n ≤ 6 ∧
  ∀ (x : Str) H', x.cps.size = n → (∀ c ∈ x.cps.toList, isSignN c = true) → x.cps.toList.Nodup → Same (L2.upd H t (.lst [.int (k + 1)])) H' → Q (.str x) H'
def spPricesC (K : PySem.W.Frag) (C : Addr) : Sp := fun vs H Q _ => ∃ (s t : Addr) (ns : List Int) (k : Int) (sg : Str) (b : Bool), vs = [.ref s, .ref t, .str sg, .bl b] ∧ Ctr K H s t ns k ∧ k ≤ 80000 ∧ Signs sg ∧ sg.cps.size ≤ 12 ∧
  ∀ x H' k' rows fo fm, PrAt K C (Wo t H') x sg rows fo fm → H x = none → Same (Wo t H) (Wo t H') → H' t = some (.lst [.int k']) → k ≤ k' → k' ≤ k + 200 → Q (.ref x) H'
end GP

namespace GP
open PySem L2 GwM
def thAt (rs : List Str) (i k : Nat) : Nat := (rs.getD i ⟨#[]⟩).cps.toList.getD k 0
theorem colL_at {rs : List Str} {i k : Nat} (h : i < rs.length) : (colL rs k).getD i 0 = thAt rs i k := by
  unfold colL thAt
  rw [getD_of (by rw [List.getElem?_map, List.getElem?_eq_getElem h]; rfl), getD_of (List.getElem?_eq_getElem h)]
theorem blkC_law (tc : Nat → Nat → Int) (rs : List Str) : sm (fun i => sm (fun j => if i < j then sm (fun k => tc (thAt rs i k) (thAt rs j k)) (wid rs) else 0) rs.length) rs.length = blkC tc rs := by
  rw [← sm_tri fun k i r => tc (thAt rs i k) (thAt rs r k)]
  unfold blkC colC
  refine sm_congr fun k _ => sm_congr fun r hr => sm_congr fun i hi => ?_
  rw [colL_at hr, colL_at (Nat.lt_trans hi hr)]
theorem sm_none {i : Nat} (f : Nat → Int) : ∀ n, n ≤ i + 1 → sm (fun j => if i < j then f j else 0) n = 0
  | 0, _ => rfl
  | n + 1, h => by
    show sm (fun j => if i < j then f j else 0) n + (if i < n then f n else 0) = 0
    rw [sm_none f n (by omega), if_neg (by omega)]
    rfl
def spCostC (K : PySem.W.Frag) (C : Addr) : Sp := fun vs H Q _ => ∃ (x a : Addr) (sg : Str) (rows : List (List Fra)) (fo fm : Fra) (rs : List Str), vs = [.ref x, .ref a] ∧ PrAt K C H x sg rows fo fm ∧ SqL K H a (rs.map V.str) ∧ SmR rs ∧ lenB rs = true ∧ (∀ r ∈ rs, Of (knS sg) r) ∧
  ∀ H', Same H H' → Q (.int (blkC (tcF sg rows fo fm) rs)) H'
def spWholeI : Sp := fun vs H Q _ => ∃ n : Int, vs = [.int n] ∧ Q (.bl true) H
def spIsCost (K : PySem.W.Frag) (C : Addr) : Sp := fun vs H Q _ => ∃ (x q : Addr) (sg : Str) (rows : List (List Fra)) (fo fm : Fra) (n : Int), vs = [.ref x, .ref q, .int n] ∧ PrAt K C H x sg rows fo fm ∧ H q = some (.tup [.int (loF (n, unitOf fo.2 fm.2 rows)).1, .int (loF (n, unitOf fo.2 fm.2 rows)).2]) ∧
  ∀ H', Same H H' → Q (.bl true) H'
end GP

namespace GP
open PySem L2 GwM
def spRefC (K : PySem.W.Frag) (C : Addr) : Sp := fun vs H Q _ => ∃ (x a : Addr) (sg : Str) (rows : List (List Fra)) (fo fm : Fra) (rs : List Str) (i j : Nat), vs = [.ref x, .ref a] ∧ PrAt K C H x sg rows fo fm ∧ SqL K H a (rs.map V.str) ∧ SmR rs ∧ blockB rs = true ∧ BadR (knS sg) rs i j ∧
  ∀ q H', Same H H' → H' q = some (.tup [.int (i : Int), .int (j : Int)]) → Q (.ref q) H'
def spStrC (K : PySem.W.Frag) : Sp := fun vs H Q _ => ∃ (a : Addr) (sg : Str) (rs : List Str) (i j : Nat), vs = [.ref a, .str sg] ∧ SqL K H a (rs.map V.str) ∧ SmR rs ∧ BadR (knS sg) rs i j ∧
  ∀ q H', Same H H' → H' q = some (.tup [.int (i : Int), .int (j : Int)]) → Q (.ref q) H'
theorem blockB_lenB {rs : List Str} (h : blockB rs = true) : lenB rs = true := by
  unfold blockB at h
  rw [Bool.and_eq_true] at h
  exact h.1
theorem BadR.uniq {kn : Str} {rs : List Str} {i j i' j' : Nat} (h : BadR kn rs i j) (h' : BadR kn rs i' j') : i = i' ∧ j = j' := by
  obtain ⟨⟨r, c, h1, h2, h3, h4⟩, h5⟩ := h
  obtain ⟨⟨r', c', h1', h2', h3', h4'⟩, h5'⟩ := h'
  have m : c ∈ r.cps.toList := by rw [← Array.getElem?_toList] at h2; exact List.mem_of_getElem? h2
  have m' : c' ∈ r'.cps.toList := by rw [← Array.getElem?_toList] at h2'; exact List.mem_of_getElem? h2'
  have ei : i = i' := Nat.le_antisymm (Nat.not_lt.mp fun z => h3' (h5 i' r' z h1' c' m')) (Nat.not_lt.mp fun z => h3 (h5' i r z h1 c m))
  subst ei
  rw [h1] at h1'
  cases h1'
  exact ⟨rfl, Nat.le_antisymm (Nat.not_lt.mp fun z => h3' (h4 j' c' z h2')) (Nat.not_lt.mp fun z => h3 (h4' j c z h2))⟩
theorem BadR.no {kn : Str} {rs : List Str} {i j : Nat} (h : BadR kn rs i j) : ¬ ∀ r ∈ rs, Of kn r := fun z => by
  obtain ⟨⟨r, c, h1, h2, h3, _⟩, _⟩ := h
  exact h3 (z r (List.mem_of_getElem? h1) c (by rw [← Array.getElem?_toList] at h2; exact List.mem_of_getElem? h2))
end GP

namespace GP
open PySem L2 GwM
def okX (x : Str) (c : Nat) : Prop := okT c ∧ c ∈ (knS x).cps.toList
theorem okX.gap {x : Str} : okX x 45 := ⟨.inl rfl, knS_mem.mpr (.inl rfl)⟩
theorem okX.of {x : Str} {c : Nat} (h : isSignN c = true ∧ c ∈ x.cps.toList) : okX x c := ⟨.inr h.1, knS_mem.mpr (.inr h.2)⟩
theorem grown_of {kn : Str} {rs : List Str} {cs : List Nat} {n : Nat} (hl : rs.length = n) (hc : cs.length = n) (h : ∀ r ∈ rs, Of kn r) (hk : ∀ c ∈ cs, c ∈ kn.cps.toList) : ∀ r ∈ grown rs cs n, Of kn r := fun y hy d hd => by
  unfold grown at hy
  obtain ⟨r, hr, rfl⟩ := List.mem_map.mp hy
  have hr' := List.mem_range.mp hr
  have h1 : r < rs.length := by rw [hl]; exact hr'
  have h2 : r < cs.length := by rw [hc]; exact hr'
  rw [getD_of (List.getElem?_eq_getElem h1), getD_of (List.getElem?_eq_getElem h2), strApp] at hd
  rcases List.mem_append.mp hd with hd | hd
  · exact h _ (List.getElem_mem h1) d hd
  · rw [List.mem_singleton.mp hd]
    exact hk _ (List.getElem_mem h2)
def spColC (K : PySem.W.Frag) : Sp := fun vs H Q _ => ∃ (s t : Addr) (ns : List Int) (k : Int) (x : Str) (n : Nat), vs = [.ref s, .ref t, .str x, .int n] ∧ Ctr K H s t ns k ∧ k ≤ 90000 ∧ 0 < n ∧ n ≤ 10 ∧ 0 < x.cps.size ∧ x.cps.size ≤ 10 ∧ (∀ c ∈ x.cps.toList, isSignN c = true) ∧
  ∀ (l : Addr) (cs : List Nat) (k' : Int) (H' : Hp), cs.length = n → (∀ c ∈ cs, okX x c) → (∃ c ∈ cs, c ≠ 45) → H' l = some (.lst (cs.map sg)) → H l = none → Same (Wo t H) (Wo t H') → H' t = some (.lst [.int k']) → k ≤ k' → k' ≤ k + 20 → Q (.ref l) H'
def spRowsC (K : PySem.W.Frag) : Sp := fun vs H Q _ => ∃ (s t : Addr) (ns : List Int) (k : Int) (x : Str) (n m : Nat), vs = [.ref s, .ref t, .str x, .int n, .int m] ∧ Ctr K H s t ns k ∧ k ≤ 80000 ∧ 0 < n ∧ n ≤ 10 ∧ m ≤ 50 ∧ 0 < x.cps.size ∧ x.cps.size ≤ 10 ∧ (∀ c ∈ x.cps.toList, isSignN c = true) ∧
  ∀ (l : Addr) (rs : List Str) (k' : Int) (H' : Hp), RsOk rs n m → (∀ r ∈ rs, Of (knS x) r) → H' l = some (.lst (rs.map V.str)) → H l = none → Same (Wo t H) (Wo t H') → H' t = some (.lst [.int k']) → k ≤ k' → k' ≤ k + 1000 → Q (.ref l) H'
end GP

namespace GP
open PySem L2 GwM
/-! ### a thing put in at a place -/
theorem cut_set (l : List Nat) (c : Nat) : ∀ (k : Nat), k < l.length → l.take k ++ [c] ++ l.drop (k + 1) = l.set k c := by
  induction l with
  | nil => intro k h; cases h
  | cons a l ih =>
    intro k h
    cases k with
    | zero => rfl
    | succ k =>
      have := ih k (by simpa using h)
      show a :: (l.take k ++ [c] ++ l.drop (k + 1)) = a :: l.set k c
      rw [this]
theorem RsOk.put {rs : List Str} {n w r k : Nat} {row o : Str} {c : Nat} (h : RsOk rs n w) (hr : rs[r]? = some row) (hk : k < w) (ho : o.cps.toList = row.cps.toList.set k c) (hc : isSignN c = true) : RsOk (rs.set r o) n w := by
  have hm := List.mem_of_getElem? hr
  have hrl : r < rs.length := (List.getElem?_eq_some_iff.mp hr).1
  have hkl : k < row.cps.toList.length := by rw [Array.length_toList, h.wid row hm]; exact hk
  refine ⟨by rw [List.length_set]; exact h.len, fun y hy => ?_, fun y hy d hd => ?_, fun j hj => ?_⟩
  · rcases List.mem_or_eq_of_mem_set hy with hy | rfl
    · exact h.wid y hy
    · rw [← Array.length_toList, ho, List.length_set, Array.length_toList]; exact h.wid row hm
  · rcases List.mem_or_eq_of_mem_set hy with hy | rfl
    · exact h.ok y hy d hd
    · rw [ho] at hd
      rcases List.mem_or_eq_of_mem_set hd with hd | rfl
      · exact h.ok row hm d hd
      · exact .inr hc
  · obtain ⟨y, hy, d, hd, hne⟩ := h.col j hj
    obtain ⟨q, hq, e⟩ := List.getElem_of_mem hy
    by_cases z : q = r
    · subst z
      rw [List.getElem?_eq_getElem hq, e] at hr
      cases hr
      refine ⟨o, List.mem_set hrl o, ?_⟩
      by_cases z2 : j = k
      · subst z2
        exact ⟨c, by rw [ho, List.getElem?_set_self hkl], sign_ne hc⟩
      · exact ⟨d, by rw [ho, List.getElem?_set_ne (Ne.symm z2)]; exact hd, hne⟩
    · refine ⟨y, ?_, d, hd, hne⟩
      refine List.mem_of_getElem? (i := q) ?_
      rw [List.getElem?_set_ne (Ne.symm z), List.getElem?_eq_getElem hq, e]
theorem bad_row {kn : List Nat} : ∀ {l : List Nat}, (∃ c ∈ l, c ∉ kn) → ∃ (j : Nat) (c : Nat), l[j]? = some c ∧ c ∉ kn ∧ ∀ (k d : Nat), k < j → l[k]? = some d → d ∈ kn
  | [], h => by obtain ⟨c, hc, _⟩ := h; cases hc
  | a :: l, h => by
    by_cases ha : a ∈ kn
    · obtain ⟨c, hc, hn⟩ := h
      rcases List.mem_cons.mp hc with rfl | hc
      · exact absurd ha hn
      · obtain ⟨j, d, h1, h2, h3⟩ := bad_row ⟨c, hc, hn⟩
        refine ⟨j + 1, d, h1, h2, fun k e hk he => ?_⟩
        cases k with
        | zero => cases he; exact ha
        | succ k => exact h3 k e (by omega) he
    · exact ⟨0, a, rfl, ha, fun k d hk _ => absurd hk (Nat.not_lt_zero _)⟩
theorem BadR.ex {kn : Str} : ∀ {rs : List Str}, (∃ r ∈ rs, ∃ c ∈ r.cps.toList, c ∉ kn.cps.toList) → ∃ i j, BadR kn rs i j
  | [], h => by obtain ⟨r, hr, _⟩ := h; cases hr
  | r :: rs, h => by
    by_cases hr : ∃ c ∈ r.cps.toList, c ∉ kn.cps.toList
    · obtain ⟨j, c, h1, h2, h3⟩ := bad_row hr
      exact ⟨0, j, ⟨r, c, rfl, by rw [← Array.getElem?_toList]; exact h1, h2, fun k d hk hd => h3 k d hk (by rw [Array.getElem?_toList]; exact hd)⟩, fun m r hm => absurd hm (Nat.not_lt_zero _)⟩
    · have hO : Of kn r := fun c hc => Classical.byContradiction fun z => hr ⟨c, hc, z⟩
      obtain ⟨y, hy, c, hc, hn⟩ := h
      rcases List.mem_cons.mp hy with rfl | hy
      · exact absurd ⟨c, hc, hn⟩ hr
      · obtain ⟨i, j, ⟨y', d, e1, e2, e3, e4⟩, e5⟩ := BadR.ex ⟨y, hy, c, hc, hn⟩
        refine ⟨i + 1, j, ⟨y', d, e1, e2, e3, e4⟩, fun m z hm hz => ?_⟩
        cases m with
        | zero => cases hz; exact hO
        | succ m => exact e5 m z (by omega) hz
theorem take_not {l : List Nat} (h : l.Nodup) {k j c : Nat} (hj : l[j]? = some c) (hk : k ≤ j) : c ∉ l.take k := fun z => by
  obtain ⟨i, hi, e⟩ := List.getElem_of_mem z
  rw [List.length_take] at hi
  have hi2 : i < l.length := by omega
  obtain ⟨hj2, e2⟩ := List.getElem?_eq_some_iff.mp hj
  rw [List.getElem_take] at e
  have := (List.getElem_inj (h₀ := hi2) (h₁ := hj2) h).mp (e.trans e2.symm)
  omega
structure St41 (K : PySem.W.Frag) (CP CB : Addr) (H H' : Hp) (t a x o : Addr) (k : Int) (sg : Str) (rows : List (List Fra)) (fo fm : Fra) (rs0 rs : List Str) : Prop where
  ne : a ≠ t
  at_ : H' a = some (.lst (rs.map V.str))
  ct : H' t = some (.lst [.int k])
  pr : PrAt K CP (Wo a (Wo t H')) x sg rows fo fm
  blk : Blk K CB (Wo a (Wo t H')) o rs0
  off : Same (Wo t H) (Wo a (Wo t H'))
section
variable {K : PySem.W.Frag} {CP CB : Addr} {H H' H'' : Hp} {t a x o : Addr} {k k2 : Int} {sg : Str} {rows : List (List Fra)} {fo fm : Fra} {rs0 rs rs2 : List Str}
theorem St41.same (h : St41 K CP CB H H' t a x o k sg rows fo fm rs0 rs) (e : Same H' H'') : St41 K CP CB H H'' t a x o k sg rows fo fm rs0 rs :=
  ⟨h.ne, e _ _ h.at_, e _ _ h.ct, h.pr.same (Wo.same (Wo.same e)), h.blk.same (Wo.same (Wo.same e)), h.off.trans (Wo.same (Wo.same e))⟩
theorem St41.tick (h : St41 K CP CB H H' t a x o k sg rows fo fm rs0 rs) : St41 K CP CB H (L2.upd H' t (.lst [.int k2])) t a x o k2 sg rows fo fm rs0 rs := by
  have e : Wo t (L2.upd H' t (.lst [.int k2])) = Wo t H' := Wo.set
  exact ⟨h.ne, by rw [upd_ne h.ne]; exact h.at_, upd_same, by rw [e]; exact h.pr, by rw [e]; exact h.blk, by rw [e]; exact h.off⟩
theorem St41.put (h : St41 K CP CB H H' t a x o k sg rows fo fm rs0 rs) : St41 K CP CB H (L2.upd H' a (.lst (rs2.map V.str))) t a x o k sg rows fo fm rs0 rs2 := by
  have e : Wo a (Wo t (L2.upd H' a (.lst (rs2.map V.str)))) = Wo a (Wo t H') := by rw [Wo.upd_ne h.ne, Wo.set]
  exact ⟨h.ne, upd_same, by rw [upd_ne h.ne.symm]; exact h.ct, by rw [e]; exact h.pr, by rw [e]; exact h.blk, by rw [e]; exact h.off⟩
theorem St41.prH (h : St41 K CP CB H H' t a x o k sg rows fo fm rs0 rs) : PrAt K CP H' x sg rows fo fm := (h.pr.same Wo.sub).same Wo.sub
theorem St41.blkH (h : St41 K CP CB H H' t a x o k sg rows fo fm rs0 rs) : Blk K CB H' o rs0 := (h.blk.same Wo.sub).same Wo.sub
theorem St41.offT (h : St41 K CP CB H H' t a x o k sg rows fo fm rs0 rs) : Same (Wo t H) (Wo t H') := h.off.trans Wo.sub
end
end GP
namespace GP
open PySem L2 GwM
theorem Blk.wo {K : PySem.W.Frag} {C : Addr} {H : Hp} {t b : Addr} {ys : List V} {rs : List Str} (ht : H t = some (.lst ys)) (h : Blk K C H b rs) : Blk K C (Wo t H) b rs := by
  obtain ⟨dx, q, h1, h2⟩ := h
  exact ⟨dx, q, Wo.in (ne_of h1 ht (by intro z; cases z)) h1, SqT.wo ht h2⟩
theorem tup2_eq (a b : Int) : tupEq [V.int a, V.int b] [V.int a, V.int b] = true := by simp [tupEq, List.range, List.range.loop, eqV]
end GP

set_option Elab.async false
set_option linter.all false
set_option maxRecDepth 100000
set_option maxHeartbeats 4000000
namespace G41
open PySem L2 GwM GP
/-! ### the text -/
def top (i : Nat) : Stmt := PySem.Challenge.pw_gapweave_k41_block_cost.main.body.getD i (.Pass ⟨0, 0, 0, 0⟩)
abbrev s_NoSign___init__ : Stmt := inClass (top 5) 0
theorem sc_NoSign___init__ : FnScope ["self", "row", "place"] ["self", "row", "place"] (defScope s_NoSign___init__) := ⟨rfl, rfl, rfl, by decide +kernel, rfl, by decide +kernel, by decide +kernel⟩
abbrev s_greatest_divisor : Stmt := top 7
theorem sc_greatest_divisor : FnScope ["one", "other", "rest"] ["one", "other"] (defScope s_greatest_divisor) := ⟨rfl, rfl, rfl, by decide +kernel, rfl, by decide +kernel, by decide +kernel⟩
abbrev s_lowest : Stmt := top 8
theorem sc_lowest : FnScope ["fraction", "divisor"] ["fraction"] (defScope s_lowest) := ⟨rfl, rfl, rfl, by decide +kernel, rfl, by decide +kernel, by decide +kernel⟩
abbrev s_is_sign : Stmt := top 13
theorem sc_is_sign : FnScope ["sign", "number"] ["sign"] (defScope s_is_sign) := ⟨rfl, rfl, rfl, by decide +kernel, rfl, by decide +kernel, by decide +kernel⟩
abbrev s_are_signs : Stmt := top 14
theorem sc_are_signs : FnScope ["text"] ["text"] (defScope s_are_signs) := ⟨rfl, rfl, rfl, by decide +kernel, rfl, by decide +kernel, by decide +kernel⟩
abbrev s_check_signs : Stmt := top 15
theorem sc_check_signs : FnScope ["signs"] ["signs"] (defScope s_check_signs) := ⟨rfl, rfl, rfl, by decide +kernel, rfl, by decide +kernel, by decide +kernel⟩
abbrev s_check_lengths_prices : Stmt := top 16
theorem sc_check_lengths_prices : FnScope ["signs", "pairs", "row"] ["signs", "pairs"] (defScope s_check_lengths_prices) := ⟨rfl, rfl, rfl, by decide +kernel, rfl, by decide +kernel, by decide +kernel⟩
abbrev s_lowest_price : Stmt := top 18
theorem sc_lowest_price : FnScope ["price"] ["price"] (defScope s_lowest_price) := ⟨rfl, rfl, rfl, by decide +kernel, rfl, by decide +kernel, by decide +kernel⟩
abbrev s_lowest_prices : Stmt := top 19
theorem sc_lowest_prices : FnScope ["row"] ["row"] (defScope s_lowest_prices) := ⟨rfl, rfl, rfl, by decide +kernel, rfl, by decide +kernel, by decide +kernel⟩
abbrev s_all_unders : Stmt := top 20
theorem sc_all_unders : FnScope ["pairs", "opening", "more", "unders", "row"] ["pairs", "opening", "more"] (defScope s_all_unders) := ⟨rfl, rfl, rfl, by decide +kernel, rfl, by decide +kernel, by decide +kernel⟩
abbrev s_unit_factors : Stmt := top 21
theorem sc_unit_factors : FnScope ["unders", "factors", "unit", "under", "factor"] ["unders"] (defScope s_unit_factors) := ⟨rfl, rfl, rfl, by decide +kernel, rfl, by decide +kernel, by decide +kernel⟩
abbrev s_product_of : Stmt := top 22
theorem sc_product_of : FnScope ["factors", "product", "factor"] ["factors"] (defScope s_product_of) := ⟨rfl, rfl, rfl, by decide +kernel, rfl, by decide +kernel, by decide +kernel⟩
abbrev s_by_unit : Stmt := top 23
theorem sc_by_unit : FnScope ["price", "unit"] ["price", "unit"] (defScope s_by_unit) := ⟨rfl, rfl, rfl, by decide +kernel, rfl, by decide +kernel, by decide +kernel⟩
abbrev s_costs_by_signs : Stmt := top 24
theorem sc_costs_by_signs : FnScope ["signs", "pairs", "unit", "costs", "one", "row", "other", "price"] ["signs", "pairs", "unit"] (defScope s_costs_by_signs) := ⟨rfl, rfl, rfl, by decide +kernel, rfl, by decide +kernel, by decide +kernel⟩
abbrev s_Prices___init__ : Stmt := inClass (top 25) 0
theorem sc_Prices___init__ : FnScope ["self", "signs", "pairs", "opening", "more"] ["self", "signs", "pairs", "opening", "more"] (defScope s_Prices___init__) := ⟨rfl, rfl, rfl, by decide +kernel, rfl, by decide +kernel, by decide +kernel⟩
abbrev s_pair_cost : Stmt := top 26
theorem sc_pair_cost : FnScope ["prices", "one", "other"] ["prices", "one", "other"] (defScope s_pair_cost) := ⟨rfl, rfl, rfl, by decide +kernel, rfl, by decide +kernel, by decide +kernel⟩
abbrev s_more_cost : Stmt := top 27
theorem sc_more_cost : FnScope ["prices"] ["prices"] (defScope s_more_cost) := ⟨rfl, rfl, rfl, by decide +kernel, rfl, by decide +kernel, by decide +kernel⟩
abbrev s_in_units : Stmt := top 28
theorem sc_in_units : FnScope ["prices", "number", "over", "under", "factor", "divisor"] ["prices", "number"] (defScope s_in_units) := ⟨rfl, rfl, rfl, by decide +kernel, rfl, by decide +kernel, by decide +kernel⟩
abbrev s_check_known : Stmt := top 30
theorem sc_check_known : FnScope ["known", "rows", "number", "row", "place", "sign"] ["known", "rows"] (defScope s_check_known) := ⟨rfl, rfl, rfl, by decide +kernel, rfl, by decide +kernel, by decide +kernel⟩
abbrev s_things_at : Stmt := top 33
theorem sc_things_at : FnScope ["texts", "place"] ["texts", "place"] (defScope s_things_at) := ⟨rfl, rfl, rfl, by decide +kernel, rfl, by decide +kernel, by decide +kernel⟩
abbrev s_turned : Stmt := top 34
theorem sc_turned : FnScope ["texts", "many"] ["texts", "many"] (defScope s_turned) := ⟨rfl, rfl, rfl, by decide +kernel, rfl, by decide +kernel, by decide +kernel⟩
abbrev s_columns_of : Stmt := top 35
theorem sc_columns_of : FnScope ["rows"] ["rows"] (defScope s_columns_of) := ⟨rfl, rfl, rfl, by decide +kernel, rfl, by decide +kernel, by decide +kernel⟩
abbrev s_is_gaps : Stmt := top 36
theorem sc_is_gaps : FnScope ["column"] ["column"] (defScope s_is_gaps) := ⟨rfl, rfl, rfl, by decide +kernel, rfl, by decide +kernel, by decide +kernel⟩
abbrev s_signs_of : Stmt := top 37
theorem sc_signs_of : FnScope ["things"] ["things"] (defScope s_signs_of) := ⟨rfl, rfl, rfl, by decide +kernel, rfl, by decide +kernel, by decide +kernel⟩
abbrev s_check_lengths_blocks : Stmt := top 38
theorem sc_check_lengths_blocks : FnScope ["rows", "row"] ["rows"] (defScope s_check_lengths_blocks) := ⟨rfl, rfl, rfl, by decide +kernel, rfl, by decide +kernel, by decide +kernel⟩
abbrev s_are_things : Stmt := top 40
theorem sc_are_things : FnScope ["row"] ["row"] (defScope s_are_things) := ⟨rfl, rfl, rfl, by decide +kernel, rfl, by decide +kernel, by decide +kernel⟩
abbrev s_check_things : Stmt := top 41
theorem sc_check_things : FnScope ["rows", "row"] ["rows"] (defScope s_check_things) := ⟨rfl, rfl, rfl, by decide +kernel, rfl, by decide +kernel, by decide +kernel⟩
abbrev s_check_columns : Stmt := top 42
theorem sc_check_columns : FnScope ["rows", "column"] ["rows"] (defScope s_check_columns) := ⟨rfl, rfl, rfl, by decide +kernel, rfl, by decide +kernel, by decide +kernel⟩
abbrev s_Block___init__ : Stmt := inClass (top 43) 0
theorem sc_Block___init__ : FnScope ["self", "rows"] ["self", "rows"] (defScope s_Block___init__) := ⟨rfl, rfl, rfl, by decide +kernel, rfl, by decide +kernel, by decide +kernel⟩
abbrev s_check_block_rows : Stmt := top 44
theorem sc_check_block_rows : FnScope ["prices", "rows"] ["prices", "rows"] (defScope s_check_block_rows) := ⟨rfl, rfl, rfl, by decide +kernel, rfl, by decide +kernel, by decide +kernel⟩
abbrev s_thing_cost : Stmt := top 45
theorem sc_thing_cost : FnScope ["prices", "one", "other"] ["prices", "one", "other"] (defScope s_thing_cost) := ⟨rfl, rfl, rfl, by decide +kernel, rfl, by decide +kernel, by decide +kernel⟩
abbrev s_column_cost : Stmt := top 46
theorem sc_column_cost : FnScope ["prices", "column", "cost", "row", "other"] ["prices", "column"] (defScope s_column_cost) := ⟨rfl, rfl, rfl, by decide +kernel, rfl, by decide +kernel, by decide +kernel⟩
abbrev s_block_units : Stmt := top 47
theorem sc_block_units : FnScope ["prices", "block"] ["prices", "block"] (defScope s_block_units) := ⟨rfl, rfl, rfl, by decide +kernel, rfl, by decide +kernel, by decide +kernel⟩
abbrev s_block_cost : Stmt := top 48
theorem sc_block_cost : FnScope ["prices", "block"] ["prices", "block"] (defScope s_block_cost) := ⟨rfl, rfl, rfl, by decide +kernel, rfl, by decide +kernel, by decide +kernel⟩
abbrev s_law_next : Stmt := top 50
theorem sc_law_next : FnScope ["_law_script", "_law_at", "_law_cell", "_law_m"] ["_law_script", "_law_at"] (defScope s_law_next) := ⟨rfl, rfl, rfl, by decide +kernel, rfl, by decide +kernel, by decide +kernel⟩
abbrev s_law_signs : Stmt := top 51
theorem sc_law_signs : FnScope ["_law_script", "_law_at", "_law_many", "_law_some", "_law_m", "_law_turn"] ["_law_script", "_law_at", "_law_many"] (defScope s_law_signs) := ⟨rfl, rfl, rfl, by decide +kernel, rfl, by decide +kernel, by decide +kernel⟩
abbrev s_law_price : Stmt := top 52
theorem sc_law_price : FnScope ["_law_script", "_law_at", "_law_m", "_law_cell", "_law_under"] ["_law_script", "_law_at"] (defScope s_law_price) := ⟨rfl, rfl, rfl, by decide +kernel, rfl, by decide +kernel, by decide +kernel⟩
abbrev s_law_prices : Stmt := top 53
theorem sc_law_prices : FnScope ["_law_script", "_law_at", "_law_signs_here", "_law_same", "_law_pairs", "_law_i", "_law_j"] ["_law_script", "_law_at", "_law_signs_here", "_law_same"] (defScope s_law_prices) := ⟨rfl, rfl, rfl, by decide +kernel, rfl, by decide +kernel, by decide +kernel⟩
abbrev s_law_column : Stmt := top 54
theorem sc_law_column : FnScope ["_law_script", "_law_at", "_law_signs_here", "_law_many", "_law_column_here", "_law_k", "_law_m"] ["_law_script", "_law_at", "_law_signs_here", "_law_many"] (defScope s_law_column) := ⟨rfl, rfl, rfl, by decide +kernel, rfl, by decide +kernel, by decide +kernel⟩
abbrev s_law_rows : Stmt := top 55
theorem sc_law_rows : FnScope ["_law_script", "_law_at", "_law_signs_here", "_law_many", "_law_columns", "_law_rows_here", "_law_k", "_law_column_here"] ["_law_script", "_law_at", "_law_signs_here", "_law_many", "_law_columns"] (defScope s_law_rows) := ⟨rfl, rfl, rfl, by decide +kernel, rfl, by decide +kernel, by decide +kernel⟩
abbrev s_law_thing : Stmt := top 56
theorem sc_law_thing : FnScope ["_law_prices_here", "_law_one", "_law_other"] ["_law_prices_here", "_law_one", "_law_other"] (defScope s_law_thing) := ⟨rfl, rfl, rfl, by decide +kernel, rfl, by decide +kernel, by decide +kernel⟩
abbrev s_law_cost : Stmt := top 57
theorem sc_law_cost : FnScope ["_law_prices_here", "_law_rows_here", "_law_total", "_law_i", "_law_j", "_law_k"] ["_law_prices_here", "_law_rows_here"] (defScope s_law_cost) := ⟨rfl, rfl, rfl, by decide +kernel, rfl, by decide +kernel, by decide +kernel⟩
abbrev s_law_whole : Stmt := top 58
theorem sc_law_whole : FnScope ["_law_found"] ["_law_found"] (defScope s_law_whole) := ⟨rfl, rfl, rfl, by decide +kernel, rfl, by decide +kernel, by decide +kernel⟩
abbrev s_law_is_cost : Stmt := top 59
theorem sc_law_is_cost : FnScope ["_law_prices_here", "_law_found", "_law_units"] ["_law_prices_here", "_law_found", "_law_units"] (defScope s_law_is_cost) := ⟨rfl, rfl, rfl, by decide +kernel, rfl, by decide +kernel, by decide +kernel⟩
abbrev s_law_with : Stmt := top 60
theorem sc_law_with : FnScope ["_law_row", "_law_k", "_law_thing_here"] ["_law_row", "_law_k", "_law_thing_here"] (defScope s_law_with) := ⟨rfl, rfl, rfl, by decide +kernel, rfl, by decide +kernel, by decide +kernel⟩
abbrev s_law_refused : Stmt := top 61
theorem sc_law_refused : FnScope ["_law_prices_here", "_law_rows_here", "_law_caught", "e"] ["_law_prices_here", "_law_rows_here"] (defScope s_law_refused) := ⟨rfl, rfl, rfl, by decide +kernel, rfl, by decide +kernel, by decide +kernel⟩
abbrev s_law_strange : Stmt := top 62
theorem sc_law_strange : FnScope ["_law_rows_here", "_law_signs_here", "_law_r", "_law_k"] ["_law_rows_here", "_law_signs_here"] (defScope s_law_strange) := ⟨rfl, rfl, rfl, by decide +kernel, rfl, by decide +kernel, by decide +kernel⟩
abbrev s_law_round : Stmt := top 63
theorem sc_law_round : FnScope ["_law_script", "_law_at", "_law_m", "_law_many", "_law_some", "_law_signs_here", "_law_prices_here", "_law_rows_here", "_law_units", "_law_block", "_law_turn", "_law_n", "_law_r", "_law_k"] ["_law_script", "_law_at"] (defScope s_law_round) := ⟨rfl, rfl, rfl, by decide +kernel, rfl, by decide +kernel, by decide +kernel⟩
abbrev s_law : Stmt := top 64
theorem sc_law : FnScope ["_law_script", "_law_at", "_law_k"] ["_law_script"] (defScope s_law) := ⟨rfl, rfl, rfl, by decide +kernel, rfl, by decide +kernel, by decide +kernel⟩
structure Pm where
  t_FIRST_SIGN : Tok
  t_LAST_SIGN : Tok
  a_NO_SIGNS : Addr
  t_GAP : Tok
  C_Prices : Addr
  C_Block : Addr
  C_WeaveError : Addr
  C_NoBlock : Addr
  C_NoRow : Addr
  C_NoSign : Addr
structure Txt (K : PySem.W.Frag) (mg : Str → Option Value) (p : Pm) : Prop where
  z_abs : mg "abs" = none
  z_len : mg "len" = none
  z_ord : mg "ord" = none
  z_set : mg "set" = none
  z_tuple : mg "tuple" = none
  z_zip : mg "zip" = none
  z_enumerate : mg "enumerate" = none
  z_range : mg "range" = none
  z_isinstance : mg "isinstance" = none
  z_int : mg "int" = none
  z_bool : mg "bool" = none
  z_all : mg "all" = none
  z_sum : mg "sum" = none
  g_FIRST_SIGN : mg "FIRST_SIGN" = some (.int 32 p.t_FIRST_SIGN)
  g_LAST_SIGN : mg "LAST_SIGN" = some (.int 126 p.t_LAST_SIGN)
  g_NO_SIGNS : mg "NO_SIGNS" = some (.ref p.a_NO_SIGNS)
  q_NO_SIGNS : ∀ H : Hp, SqT K H p.a_NO_SIGNS [.int 34, .int 37, .int 45]
  g_GAP : mg "GAP" = some (.str (Str.ofString "-") p.t_GAP)
  mg_Prices : mg "Prices" = some (.ref p.C_Prices)
  cl_Prices : Cls K p.C_Prices
  n_Prices_signs : NoAttr K p.C_Prices "signs"
  n_Prices_pairs : NoAttr K p.C_Prices "pairs"
  n_Prices_opening : NoAttr K p.C_Prices "opening"
  n_Prices_more : NoAttr K p.C_Prices "more"
  n_Prices_factors : NoAttr K p.C_Prices "factors"
  n_Prices_unit : NoAttr K p.C_Prices "unit"
  n_Prices_costs : NoAttr K p.C_Prices "costs"
  n_Prices_opening_units : NoAttr K p.C_Prices "opening_units"
  n_Prices_more_units : NoAttr K p.C_Prices "more_units"
  mg_Block : mg "Block" = some (.ref p.C_Block)
  cl_Block : Cls K p.C_Block
  n_Block_rows : NoAttr K p.C_Block "rows"
  mg_WeaveError : mg "WeaveError" = some (.ref p.C_WeaveError)
  xb_WeaveError : XB K p.C_WeaveError
  mg_NoBlock : mg "NoBlock" = some (.ref p.C_NoBlock)
  xc_NoBlock : XClsE K p.C_NoBlock
  xt_NoBlock : XTy K p.C_NoBlock
  mg_NoRow : mg "NoRow" = some (.ref p.C_NoRow)
  mg_NoSign : mg "NoSign" = some (.ref p.C_NoSign)
  xt_NoSign : XTy K p.C_NoSign
  xs_NoSign : XSt K p.C_NoSign
  xk_NoSign : ∃ f, XClsI K p.C_NoSign f
  n_NoSign_row : NoAttr K p.C_NoSign "row"
  n_NoSign_place : NoAttr K p.C_NoSign "place"
  xw_WeaveError : XBase K p.C_WeaveError
  ks_NoSign_WeaveError : PySem.W.subIn K (.ref p.C_NoSign) (.ref p.C_WeaveError) = some true
  ki_NoSign_NoSign : PySem.W.kitOne K (.ref p.C_NoSign) (.ref p.C_NoSign) = some true
  ki_NoSign_NoBlock : PySem.W.kitOne K (.ref p.C_NoSign) (.ref p.C_NoBlock) = some false
  ki_NoSign_NoRow : PySem.W.kitOne K (.ref p.C_NoSign) (.ref p.C_NoRow) = some false
theorem bo_abs : bootBuiltins "abs" = some (.builtin "abs") := by decide +kernel
theorem bo_len : bootBuiltins "len" = some (.builtin "len") := by decide +kernel
theorem bo_ord : bootBuiltins "ord" = some (.builtin "ord") := by decide +kernel
theorem bo_set : bootBuiltins "set" = some (.type "set") := by decide +kernel
theorem bo_tuple : bootBuiltins "tuple" = some (.type "tuple") := by decide +kernel
theorem bo_isinstance : bootBuiltins "isinstance" = some (.builtin "isinstance") := by decide +kernel
theorem bo_int : bootBuiltins "int" = some (.type "int") := by decide +kernel
theorem bo_bool : bootBuiltins "bool" = some (.type "bool") := by decide +kernel
theorem bo_all : bootBuiltins "all" = some (.builtin "all") := by decide +kernel
theorem bo_sum : bootBuiltins "sum" = some (.builtin "sum") := by decide +kernel
section
variable {P : Program} {w : World} {K : PySem.W.Frag} {mg : Str → Option Value} {base : Heap}
theorem ok_greatest_divisor {f_greatest_divisor : Addr} {fd_greatest_divisor : FuncData} {p : Pm} (T : Txt K mg p) (D_greatest_divisor : Dn K mg "greatest_divisor" s_greatest_divisor ["one", "other"] f_greatest_divisor fd_greatest_divisor)  : FnOk P w K mg base CX0 1 f_greatest_divisor fd_greatest_divisor ["one", "other"] spGcd := by
  refine D_greatest_divisor.fn.ok sc_greatest_divisor (fun vs H Q E h => ?_) (fun cdv A outer s H vs Q E hr h => ?_)
  · obtain ⟨a, b, rfl, _⟩ := h
    rfl
  · obtain ⟨a, b, rfl, hb, k⟩ := h
    refine ⟨_, (pss_cons (ps_while PassesOwn.never (pt_cmpR op_ne (pv 1) pe_int (nomark _)) (pss_cons (ps_set (i := 2) sc_greatest_divisor.nd rfl (Or.inl rfl) (pe_op op_mod (pv 0) (pv 1)))
      (pss_cons (ps_set (i := 0) sc_greatest_divisor.nd rfl (Or.inl rfl) (pv 1))
      (pss_one (ps_set (i := 1) sc_greatest_divisor.nd rfl (Or.inl rfl) (pv 2))))))
      (pss_one (ps_ret (pe_callB (call_abs) rfl T.z_abs bo_abs (pa_cons (pv 0) pa_nil))))), ?_⟩
    refine ⟨fun m σ H' => H' = H ∧ ∃ (x y : Int) (r : Option V), σ = [some (.int x), some (.int y), r] ∧ 0 ≤ y ∧ Int.gcd x y = Int.gcd a b ∧ m = y.toNat, ⟨b.toNat, rfl, a, b, none, rfl, hb, rfl, rfl⟩, ?_⟩
    rintro m σ H' ⟨rfl, x, y, r, rfl, hy, hg, rfl⟩
    refine ⟨_, rfl, rfl, _, rfl, ?_⟩
    refine ite_ne (fun h0 => ?_) (fun h0 => ?_)
    · have l1 := Int.emod_nonneg x h0
      have l2 := Int.emod_lt_of_pos x (show 0 < y by omega)
      refine ⟨fun σ' H'' => H'' = H' ∧ ∃ r, σ' = [some (.int y), some (.int (x % y)), r], ?_, ?_⟩
      · rintro σ' H'' ⟨rfl, r, rfl⟩
        exact ⟨(x % y).toNat, by omega, rfl, y, x % y, r, rfl, l1, (gcd_turn x y).trans hg, rfl⟩
      · exact ⟨_, rfl, _, rfl, _, _, rfl, rfl, (by show 0 < y; omega), _, rfl, _, rfl, rfl, _, rfl⟩
    · subst h0
      refine ⟨_, rfl, _, rfl, ?_⟩
      rw [gcd_end, hg]
      exact k
theorem ok_lowest {f_lowest f_greatest_divisor : Addr} {fd_lowest fd_greatest_divisor : FuncData} {p : Pm} (T : Txt K mg p) (D_lowest : Dn K mg "lowest" s_lowest ["fraction"] f_lowest fd_lowest) (D_greatest_divisor : Dn K mg "greatest_divisor" s_greatest_divisor ["one", "other"] f_greatest_divisor fd_greatest_divisor) (G_greatest_divisor : FnOk P w K mg base CX0 1 f_greatest_divisor fd_greatest_divisor ["one", "other"] spGcd) : FnOk P w K mg base CX0 2 f_lowest fd_lowest ["fraction"] (spLow K) := by
  refine D_lowest.fn.ok sc_lowest (fun vs H Q E h => ?_) (fun cdv A outer s H vs Q E hr h => ?_)
  · obtain ⟨p, f, rfl, _⟩ := h
    rfl
  · obtain ⟨p, ⟨a, b⟩, rfl, hS, hb, hb2, k⟩ := h
    have hb0 : 0 < b := hb
    have g1 := gcd_pos a hb0
    have g2 := gcd_le a hb0
    have hb' : b < 1073741824 := hb2
    refine ⟨_, (pss_cons (ps_set (i := 1) sc_lowest.nd rfl (Or.inl rfl) (pe_call G_greatest_divisor (hr.mono (by decide)) rfl D_greatest_divisor.m D_greatest_divisor.fn.kp D_greatest_divisor.b .nil pass0 (pa_cons (pe_ix ix_tup (pv 0) pe_int (fun _ _ => rfl)) (pa_cons (pe_ix ix_tup (pv 0) pe_int (fun _ _ => rfl)) pa_nil))))
      (pss_one (ps_ret (pe_tup (pa_cons (pe_op op_fdiv (pe_ix ix_tup (pv 0) pe_int (fun _ _ => rfl)) (pv 1)) (pa_cons (pe_op op_fdiv (pe_ix ix_tup (pv 0) pe_int (fun _ _ => rfl)) (pv 1)) pa_nil)))))), ?_⟩
    refine ⟨_, rfl, _, _, _, _, rfl, rfl, hS, rfl, _, rfl, _, _, _, _, rfl, rfl, hS, rfl, a, b, rfl, Int.le_of_lt hb, ?_⟩
    refine ⟨_, rfl, _, _, _, _, rfl, rfl, hS, rfl, _, rfl, _, _, rfl, rfl, ⟨g1, by omega⟩, _, rfl, _, _, _, _, rfl, rfl, hS, rfl, _, rfl, _, _, rfl, rfl, ⟨g1, by omega⟩, ?_⟩
    exact ⟨by show 2 ≤ sizeLine; decide, fun q hq => k q hq⟩
theorem ok_lowest_price {f_lowest_price f_lowest : Addr} {fd_lowest_price fd_lowest : FuncData} {p : Pm} (T : Txt K mg p) (D_lowest_price : Dn K mg "lowest_price" s_lowest_price ["price"] f_lowest_price fd_lowest_price) (D_lowest : Dn K mg "lowest" s_lowest ["fraction"] f_lowest fd_lowest) (G_lowest : FnOk P w K mg base CX0 2 f_lowest fd_lowest ["fraction"] (spLow K)) : FnOk P w K mg base CX0 3 f_lowest_price fd_lowest_price ["price"] (spLowPrice K) := by
  refine D_lowest_price.fn.ok sc_lowest_price (fun vs H Q E h => ?_) (fun cdv A outer s H vs Q E hr h => ?_)
  · obtain ⟨p, f, rfl, _⟩ := h
    rfl
  · obtain ⟨p, f, rfl, hS, ⟨h1, h2⟩, k⟩ := h
    refine ⟨_, (pss_cons (ps_if (pt_cmpR op_lt (pe_ix ix_tup (pv 0) pe_int (fun _ _ => rfl)) pe_int (nomark _)) pss_never pss_nil)
      (pss_one (ps_ret (pe_call G_lowest (hr.mono (by decide)) rfl D_lowest.m D_lowest.fn.kp D_lowest.b .nil pass0 (pa_cons (pv 0) pa_nil))))), ?_⟩
    refine ⟨_, rfl, _, _, _, _, rfl, rfl, hS, rfl, _, _, rfl, rfl, _, rfl, ?_⟩
    refine ite_dec (fun z => absurd z (by omega)) fun _ => ?_
    exact ⟨_, rfl, p, f, rfl, hS, by omega, h2, k⟩
theorem ok_lowest_prices {f_lowest_prices f_lowest_price : Addr} {fd_lowest_prices fd_lowest_price : FuncData} {p : Pm} (T : Txt K mg p) (D_lowest_prices : Dn K mg "lowest_prices" s_lowest_prices ["row"] f_lowest_prices fd_lowest_prices) (D_lowest_price : Dn K mg "lowest_price" s_lowest_price ["price"] f_lowest_price fd_lowest_price) (G_lowest_price : FnOk P w K mg base CX0 3 f_lowest_price fd_lowest_price ["price"] (spLowPrice K)) : FnOk P w K mg base CX0 4 f_lowest_prices fd_lowest_prices ["row"] (spLowPrices K) := by
  refine D_lowest_prices.fn.ok sc_lowest_prices (fun vs H Q E h => ?_) (fun cdv A outer s H vs Q E hr h => ?_)
  · obtain ⟨c, fs, rfl, _⟩ := h
    rfl
  · obtain ⟨c, fs, rfl, ⟨ps, hc, hp⟩, ho, hz, k⟩ := h
    have hl := Paired.len hp
    refine ⟨_, (pss_one (ps_ret (pe_callTy (call_tuple_of) rfl T.z_tuple bo_tuple (pa_cons (pe_comp (N := ["price"]) rfl (fun _ => ⟨[], CompSc.plain (by decide +kernel) rfl (by decide +kernel) (by decide +kernel)⟩) (pi_cp (pv 0)) (fun _ _ _ _ _ _ _ => (pg_name (i := 0) (show (["price"] : List Str).Nodup by decide +kernel) rfl (Or.inl rfl))) (fun _ _ _ _ _ _ _ => (pe_call G_lowest_price (hr.mono (by decide)) rfl D_lowest_price.m D_lowest_price.fn.kp D_lowest_price.b .nil pass0 (pa_cons (pv 0) pa_nil)))) pa_nil)))), ?_⟩
    refine ⟨_, rfl, c, _, rfl, hc, fun l hl0 => ?_⟩
    refine ⟨fun i m ys H2 => m = fs.length - i ∧ i ≤ fs.length ∧ Same H H2 ∧ H2 l = some (.lst ys) ∧ ∃ qs : List Addr, ys = qs.map V.ref ∧ qs.length = i ∧ Paired (fun q f => H2 q = some (.tup [.int f.1, .int f.2])) qs ((fs.map loF).take i), ⟨fs.length, rfl, Nat.zero_le _, Same.upd hl0, upd_same, [], rfl, rfl, .nil⟩, ?_⟩
    rintro i m ys H2 ⟨rfl, hi, s2, hl2, qs, rfl, hq, hP⟩
    have zc : c.at K H2 (ps.map V.ref) := Same.cp s2 hc
    by_cases hlt : i < fs.length
    · have hpi : i < ps.length := by omega
      have e1 : (ps.map V.ref)[i]? = some (.ref ps[i]) := by rw [List.getElem?_map, List.getElem?_eq_getElem hpi]; rfl
      refine .inr ⟨⟨_, _, zc, e1⟩, ?_⟩
      rintro x H3 ⟨rfl, hx⟩
      have ex := hx _ zc
      rw [e1] at ex
      cases ex
      obtain ⟨f, ef, hf⟩ := Paired.at hp (List.getElem?_eq_getElem hpi)
      refine ⟨Kp.rep _ _, ?_⟩
      refine ⟨_, rfl, ps[i], f, rfl, hf.same s2, ho f (List.mem_of_getElem? ef), fun q hqn => ?_⟩
      have nql : q ≠ l := fun z => by rw [z, hl2] at hqn; cases hqn
      refine ⟨by rw [upd_ne (Ne.symm nql)]; exact hl2, ?_, fs.length - (i + 1), by omega, rfl, hlt, Same.at (s2.trans (Same.upd hqn)) hl0, upd_same, qs ++ [q], by rw [List.map_append]; rfl, by rw [List.length_append, hq]; rfl, ?_⟩
      · rw [List.length_map, hq]
        exact Nat.lt_of_lt_of_le hlt (Nat.le_trans hz (by decide))
      · rw [map_take_snoc ef]
        refine GP.Paired.snoc (Paired.mapP hP fun a b z => ?_) ?_
        · have n1 : a ≠ q := ne_of_none z hqn
          have n2 : a ≠ l := ne_of z hl2 (by intro z; cases z)
          rw [upd_ne n2, upd_ne n1]
          exact z
        · rw [upd_ne nql]
          exact upd_same
    · have ei : i = fs.length := by omega
      subst ei
      refine .inl ⟨⟨_, zc, by rw [List.length_map]; omega⟩, ?_⟩
      refine ⟨l, _, rfl, .inl ⟨SqL.of hl2, fun q hqn => ?_⟩⟩
      refine k q _ (s2.trans (Same.upd hqn)) (Same.free s2 hqn) ⟨qs, SqT.of upd_same, ?_⟩
      rw [List.take_of_length_le (by rw [List.length_map]; exact Nat.le_refl _)] at hP
      exact Paired.mapP hP fun a b z => SqT.of (by rw [upd_ne (ne_of_none z hqn)]; exact z)
theorem ok_all_unders {f_all_unders : Addr} {fd_all_unders : FuncData} {p : Pm} (T : Txt K mg p) (D_all_unders : Dn K mg "all_unders" s_all_unders ["pairs", "opening", "more"] f_all_unders fd_all_unders)  : FnOk P w K mg base CX0 1 f_all_unders fd_all_unders ["pairs", "opening", "more"] (spUnders K) := by
  refine D_all_unders.fn.ok sc_all_unders (fun vs H Q E h => ?_) (fun cdv A outer s H vs Q E hr h => ?_)
  · obtain ⟨Pp, o, m, rows, fo, fm, rfl, _⟩ := h
    rfl
  · obtain ⟨Pp, o, m, rows, fo, fm, rfl, ⟨cs, hc, hp⟩, hfo, hfm, hl12, hr12, k⟩ := h
    refine ⟨_, (pss_cons (ps_set (i := 3) sc_all_unders.nd rfl (Or.inl rfl) (pe_lst (pa_cons (pe_ix ix_tup (pv 1) pe_int (fun _ _ => rfl)) (pa_cons (pe_ix ix_tup (pv 2) pe_int (fun _ _ => rfl)) pa_nil))))
      (pss_cons (ps_for PassesOwn.never rfl (pi_cp (pv 0)) (pg_name (i := 4) sc_all_unders.nd rfl (Or.inl rfl)) (pss_one (ps_expr (pe_bm PySem.F.plainAttrs_list PySem.F.slot_list_extend PySem.F.type_list_extend mt_extend (pv 3) (pa_cons (pe_comp (N := ["price"]) rfl (fun _ => ⟨[], CompSc.plain (by decide +kernel) rfl (by decide +kernel) (by decide +kernel)⟩) (pi_cp (pv 4)) (fun _ _ _ _ _ _ _ => (pg_name (i := 0) (show (["price"] : List Str).Nodup by decide +kernel) rfl (Or.inl rfl))) (fun _ _ _ _ _ _ _ => (pe_ix (ix_tupK (K' := K) rfl) (pv 0) pe_int (fun _ _ => rfl)))) pa_nil)))))
      (pss_one (ps_ret (pv 3))))), ?_⟩
    refine ⟨_, rfl, _, _, _, _, rfl, rfl, hfo, rfl, _, rfl, _, _, _, _, rfl, rfl, hfm, rfl, (by show 2 ≤ sizeLine; decide), fun l hl => ?_⟩
    have flen : ∀ i, ((rows.take i).flatten.map (·.2)).length ≤ 12 * 12 := fun i => by
      have : ∀ (q : List (List Fra)), (∀ r ∈ q, r.length ≤ 12) → q.flatten.length ≤ 12 * q.length := fun q => by
        induction q with
        | nil => intro _; simp
        | cons r q ih =>
          intro h
          have a := h r List.mem_cons_self
          have b := ih fun r' hr => h r' (List.mem_cons_of_mem _ hr)
          rw [List.flatten_cons, List.length_append, List.length_cons]
          omega
      have a := this (rows.take i) fun r hr => hr12 r (List.mem_of_mem_take hr)
      have b : (rows.take i).length ≤ 12 := by rw [List.length_take]; omega
      rw [List.length_map]
      omega
    refine ⟨_, rfl, .tup Pp, _, rfl, Same.cp (Same.upd hl) (c := .tup Pp) hc, for_cp (K := K) (c := .tup Pp) (xs := cs.map Cp.val) (fun i σ H2 => ∃ v4, σ = [some (.ref Pp), some (.ref o), some (.ref m), some (.ref l), v4] ∧ Same H H2 ∧ H2 l = some (.lst ((fo.2 :: fm.2 :: (rows.take i).flatten.map (·.2)).map V.int)))
      ⟨_, rfl, Same.upd hl, upd_same⟩ (fun i σ H2 _ ⟨_, _, s2, _⟩ => Same.cp s2 hc) ?_ ?_⟩
    · rintro i x σ H2 hx ⟨v4, rfl, s2, hl2⟩
      obtain ⟨c, ec, rfl⟩ := map_at hx
      obtain ⟨row, er, ⟨ps, hc2, hp2⟩⟩ := Paired.at hp ec
      have hc2' := Same.cp s2 hc2
      refine ⟨_, rfl, .inl ⟨rfl, _, SqL.of hl2⟩, ?_⟩
      refine ⟨_, rfl, c, _, rfl, hc2', fun lx hlx => ?_⟩
      refine ⟨fun j m' ys H3 => m' = row.length - j ∧ j ≤ row.length ∧ Same H2 H3 ∧ H3 lx = some (.lst ys) ∧ ys = ((row.take j).map (·.2)).map V.int, ⟨row.length, rfl, Nat.zero_le _, Same.upd hlx, upd_same, rfl⟩, ?_⟩
      rintro j m' ys H3 ⟨rfl, hj, s3, hlx3, rfl⟩
      have zr := Same.cp s3 hc2'
      by_cases hjt : j < row.length
      · have hpj : j < ps.length := by rw [Paired.len hp2]; exact hjt
        have e1 : (ps.map V.ref)[j]? = some (.ref ps[j]) := by rw [List.getElem?_map, List.getElem?_eq_getElem hpj]; rfl
        refine .inr ⟨⟨_, _, zr, e1⟩, ?_⟩
        rintro y H4 ⟨rfl, hy2⟩
        have ey := hy2 _ zr
        rw [e1] at ey
        cases ey
        refine ⟨Kp.rep _ _, ?_⟩
        obtain ⟨f, ef, hf⟩ := Paired.at hp2 (List.getElem?_eq_getElem hpj)
        have hf' := hf.same (s2.trans s3)
        refine ⟨_, rfl, _, _, _, _, rfl, rfl, hf', rfl, ?_⟩
        refine ⟨hlx3, ?_, row.length - (j + 1), by omega, rfl, hjt, Same.at s3 hlx, upd_same, ?_⟩
        · rw [List.length_map, List.length_map, List.length_take]
          have := hr12 row (List.mem_of_getElem? er)
          exact Nat.lt_of_lt_of_le (show min j row.length < 100 by omega) (by decide)
        · rw [take_snoc ef, List.map_append, List.map_append]
          rfl
      · have ej : j = row.length := by omega
        subst ej
        rw [List.take_of_length_le (Nat.le_refl _)] at hlx3
        refine .inl ⟨⟨_, zr, by rw [List.length_map, Paired.len hp2]; exact Nat.le_refl _⟩, ?_⟩
        have hl3 := s3 _ _ hl2
        refine ⟨l, lx, _, _, rfl, rfl, hl3, hlx3, ?_, ?_⟩
        · have a := flen i
          have a2 := hr12 row (List.mem_of_getElem? er)
          have a3 : ((fo.2 :: fm.2 :: (rows.take i).flatten.map (·.2)).map V.int).length + ((row.map (·.2)).map V.int).length ≤ 200 := by
            rw [List.length_map, List.length_cons, List.length_cons, List.length_map, List.length_map, List.length_map]
            rw [List.length_map] at a
            omega
          exact Nat.le_trans a3 (by decide)
        refine ⟨_, rfl, Same.at (s2.trans s3) hl, ?_⟩
        rw [upd_same, take_snoc er, List.flatten_append, List.map_append]
        simp
    · rintro σ H2 ⟨v4, rfl, s2, hl2⟩
      refine ⟨_, rfl, ?_⟩
      rw [List.length_map, Paired.len hp, List.take_of_length_le (Nat.le_refl _)] at hl2
      exact k l H2 s2 hl hl2
theorem ok_unit_factors {f_unit_factors f_greatest_divisor : Addr} {fd_unit_factors fd_greatest_divisor : FuncData} {p : Pm} (T : Txt K mg p) (D_unit_factors : Dn K mg "unit_factors" s_unit_factors ["unders"] f_unit_factors fd_unit_factors) (D_greatest_divisor : Dn K mg "greatest_divisor" s_greatest_divisor ["one", "other"] f_greatest_divisor fd_greatest_divisor) (G_greatest_divisor : FnOk P w K mg base CX0 1 f_greatest_divisor fd_greatest_divisor ["one", "other"] spGcd) : FnOk P w K mg base CX0 2 f_unit_factors fd_unit_factors ["unders"] (spFactors K) := by
  refine D_unit_factors.fn.ok sc_unit_factors (fun vs H Q E h => ?_) (fun cdv A outer s H vs Q E hr h => ?_)
  · obtain ⟨l, ns, rfl, _⟩ := h
    rfl
  · obtain ⟨l, ns, rfl, hl, hn, hs, k⟩ := h
    refine ⟨_, (pss_cons (ps_set (i := 1) sc_unit_factors.nd rfl (Or.inl rfl) (pe_lst pa_nil))
      (pss_cons (ps_set (i := 2) sc_unit_factors.nd rfl (Or.inl rfl) pe_int)
      (pss_cons (ps_for PassesOwn.never rfl (pi_list (pv 0)) (pg_name (i := 3) sc_unit_factors.nd rfl (Or.inl rfl)) (pss_cons (ps_set (i := 4) sc_unit_factors.nd rfl (Or.inl rfl) (pe_op op_fdiv (pv 3) (pe_call G_greatest_divisor (hr.mono (by decide)) rfl D_greatest_divisor.m D_greatest_divisor.fn.kp D_greatest_divisor.b .nil pass0 (pa_cons (pv 2) (pa_cons (pv 3) pa_nil)))))
      (pss_one (ps_if (pt_cmpR op_gt (pv 4) pe_int (nomark _)) (pss_cons (ps_expr (pe_bm PySem.F.plainAttrs_list PySem.F.slot_list_append PySem.F.type_list_append mt_append (pv 1) (pa_cons (pv 4) pa_nil)))
      (pss_one (ps_set (i := 2) sc_unit_factors.nd rfl (Or.inl rfl) (pe_op op_mul (pv 2) (pv 4))))) pss_nil))))
      (pss_one (ps_ret (pv 1)))))), ?_⟩
    refine ⟨by show 0 ≤ sizeLine; decide, fun q hq => ?_⟩
    refine ⟨_, rfl, l, rfl, ⟨_, Same.seq (Same.upd hq) hl⟩, for_list (K := K) (a := l) (xs := ns.map V.int) (fun i σ H2 => ∃ v3 v4, σ = [some (.ref l), some (.ref q), some (.int (facSt (ns.take i)).2), v3, v4] ∧ Same H H2 ∧ H2 q = some (.lst ((facSt (ns.take i)).1.map V.int)))
      ⟨_, _, rfl, Same.upd hq, upd_same⟩ (fun i σ H2 _ ⟨_, _, _, s2, _⟩ => Same.seq s2 hl) ?_ ?_⟩
    · rintro i x σ H2 hx ⟨v3, v4, rfl, s2, hq2⟩
      obtain ⟨b, eb, rfl⟩ := map_at hx
      have hi : i < ns.length := (List.getElem?_eq_some_iff.mp eb).1
      have hb := hs b (List.mem_of_getElem? eb)
      have F := facs_take hs i (Nat.le_of_lt hi)
      have es : facSt (ns.take (i + 1)) = facStep (facSt (ns.take i)) b := by rw [take_snoc eb, facSt_snoc]
      have fl := F.len
      rw [List.length_take] at fl
      rw [es]
      unfold facStep
      generalize hp : facSt (ns.take i) = pr at *
      obtain ⟨fs, u⟩ := pr
      obtain ⟨b1, b2⟩ := hb
      have g1 := gcd_pos u b1
      have g2 := gcd_le u b1
      obtain ⟨d1, d2⟩ := fac_div (u := u) ⟨b1, b2⟩
      refine ⟨_, rfl, _, rfl, _, rfl, u, b, rfl, Int.le_of_lt b1, _, _, rfl, rfl, ⟨g1, by omega⟩, _, rfl, _, _, rfl, rfl, _, rfl, ?_⟩
      refine ite_dec (fun h1 => ?_) (fun h1 => ?_)
      · rw [if_pos h1]
        refine ⟨_, rfl, .inl ⟨rfl, _, SqL.of hq2⟩, _, rfl, q, _, _, rfl, rfl, hq2, ?_, ?_⟩
        · rw [List.length_map]
          exact Nat.lt_of_le_of_lt (show fs.length ≤ 1000 by dsimp only at fl; omega) (by decide)
        refine ⟨_, rfl, _, rfl, _, _, rfl, rfl, .inr ⟨by omega, by omega⟩, ?_⟩
        exact ⟨_, _, rfl, Same.at s2 hq, by rw [upd_same, List.map_append]; rfl⟩
      · rw [if_neg h1]
        exact ⟨_, _, rfl, s2, hq2⟩
    · rintro σ H2 ⟨v3, v4, rfl, s2, hq2⟩
      refine ⟨_, rfl, ?_⟩
      rw [List.length_map, List.take_of_length_le (Nat.le_refl _)] at hq2
      exact k q H2 s2 hq hq2
theorem ok_product_of {f_product_of : Addr} {fd_product_of : FuncData} {p : Pm} (T : Txt K mg p) (D_product_of : Dn K mg "product_of" s_product_of ["factors"] f_product_of fd_product_of)  : FnOk P w K mg base CX0 1 f_product_of fd_product_of ["factors"] (spProd K) := by
  refine D_product_of.fn.ok sc_product_of (fun vs H Q E h => ?_) (fun cdv A outer s H vs Q E hr h => ?_)
  · obtain ⟨l, fs, rfl, _⟩ := h
    rfl
  · obtain ⟨l, fs, rfl, hl, hs, k⟩ := h
    refine ⟨_, (pss_cons (ps_set (i := 1) sc_product_of.nd rfl (Or.inl rfl) pe_int)
      (pss_cons (ps_for PassesOwn.never rfl (pi_list (pv 0)) (pg_name (i := 2) sc_product_of.nd rfl (Or.inl rfl)) (pss_one (ps_set (i := 1) sc_product_of.nd rfl (Or.inl rfl) (pe_op op_mul (pv 1) (pv 2)))))
      (pss_one (ps_ret (pv 1))))), ?_⟩
    refine ⟨_, rfl, l, rfl, ⟨_, hl⟩, for_list (K := K) (a := l) (xs := fs.map V.int) (fun i σ H2 => H2 = H ∧ ∃ v2, σ = [some (.ref l), some (.int (prodI (fs.take i))), v2])
      ⟨rfl, _, rfl⟩ (fun i σ H2 _ ⟨e, _⟩ => by subst e; exact hl) ?_ ?_⟩
    · rintro i x σ H2 hx ⟨rfl, v2, rfl⟩
      obtain ⟨b, eb, rfl⟩ := map_at hx
      obtain ⟨b1, b2⟩ := hs b (List.mem_of_getElem? eb)
      refine ⟨_, rfl, _, rfl, _, _, rfl, rfl, .inr ⟨by omega, by omega⟩, rfl, some (.int b), ?_⟩
      rw [take_snoc eb, prodI_snoc]
      rfl
    · rintro σ H2 ⟨rfl, v2, rfl⟩
      refine ⟨_, rfl, ?_⟩
      rw [List.length_map, List.take_of_length_le (Nat.le_refl _)]
      exact k
theorem ok_by_unit {f_by_unit : Addr} {fd_by_unit : FuncData} {p : Pm} (T : Txt K mg p) (D_by_unit : Dn K mg "by_unit" s_by_unit ["price", "unit"] f_by_unit fd_by_unit)  : FnOk P w K mg base CX0 1 f_by_unit fd_by_unit ["price", "unit"] (spByUnit K) := by
  refine D_by_unit.fn.ok sc_by_unit (fun vs H Q E h => ?_) (fun cdv A outer s H vs Q E hr h => ?_)
  · obtain ⟨p, f, u, rfl, _⟩ := h
    rfl
  · obtain ⟨p, f, u, rfl, hS, ⟨h1, h2⟩, b1, b2, k⟩ := h
    refine ⟨_, (pss_one (ps_ret (pe_op op_mulB (pe_ix ix_tup (pv 0) pe_int (fun _ _ => rfl)) (pe_op op_fdiv (pv 1) (pe_ix ix_tup (pv 0) pe_int (fun _ _ => rfl)))))), ?_⟩
    exact ⟨_, rfl, _, _, _, _, rfl, rfl, hS, rfl, _, rfl, _, rfl, _, _, _, _, rfl, rfl, hS, rfl, _, _, rfl, rfl, ⟨by omega, h2⟩, _, _, rfl, rfl, ⟨b1, b2⟩, k⟩
end
section
variable {P : Program} {w : World} {K : PySem.W.Frag} {mg : Str → Option Value} {base : Heap}
theorem ok_is_sign {f_is_sign : Addr} {fd_is_sign : FuncData} {p : Pm} (T : Txt K mg p) (D_is_sign : Dn K mg "is_sign" s_is_sign ["sign"] f_is_sign fd_is_sign)  : FnOk P w K mg base CX0 1 f_is_sign fd_is_sign ["sign"] spIsSign := by
  refine D_is_sign.fn.ok sc_is_sign (fun vs H Q E h => ?_) (fun cdv A outer s H vs Q E hr h => ?_)
  · obtain ⟨c, rfl, _⟩ := h
    rfl
  · obtain ⟨c, rfl, k⟩ := h
    refine ⟨_, (pss_cons (ps_set (i := 1) sc_is_sign.nd rfl (Or.inl rfl) (pe_callB (call_ord) rfl T.z_ord bo_ord (pa_cons (pv 0) pa_nil)))
      (pss_one (ps_ret (pe_and (pe_chain op_le op_le (pe_glob (v := .int 32) rfl T.g_FIRST_SIGN ⟨_, rfl⟩) (pv 1) (pe_glob (v := .int 126) rfl T.g_LAST_SIGN ⟨_, rfl⟩)) (pe_one (pe_cmpR op_notIn_seq (pv 1) (pe_glob (v := .ref p.a_NO_SIGNS) rfl T.g_NO_SIGNS rfl) (by with_unfolding_all rfl))))))), ?_⟩
    refine ⟨_, rfl, _, rfl, rfl, ?_⟩
    have k' : Q (.bl ((decide ((32 : Int) ≤ (c : Int)) && decide ((c : Int) ≤ 126)) && !inV (.int c) [.int 34, .int 37, .int 45])) H := k
    refine ⟨_, rfl, _, _, rfl, rfl, _, rfl, ?_⟩
    refine ite_dec (fun h1 => ?_) (fun h1 => ?_)
    · refine ⟨_, _, rfl, rfl, _, rfl, ?_⟩
      have h1' : (32 : Int) ≤ (c : Int) := h1
      rw [decide_eq_true h1', Bool.true_and] at k'
      refine ite_dec (fun h2 => ?_) (fun h2 => ?_)
      · have h2' : (c : Int) ≤ 126 := h2
        rw [decide_eq_true h2', Bool.true_and] at k'
        exact ⟨_, rfl, _, _, rfl, .inr (T.q_NO_SIGNS _), rfl, rfl, k'⟩
      · have h2' : ¬ (c : Int) ≤ 126 := h2
        rw [decide_eq_false h2', Bool.false_and] at k'
        exact k'
    · have h1' : ¬ (32 : Int) ≤ (c : Int) := h1
      rw [decide_eq_false h1', Bool.false_and, Bool.false_and] at k'
      exact ⟨_, rfl, iteF k'⟩
theorem ok_are_signs {f_are_signs f_is_sign : Addr} {fd_are_signs fd_is_sign : FuncData} {p : Pm} (T : Txt K mg p) (D_are_signs : Dn K mg "are_signs" s_are_signs ["text"] f_are_signs fd_are_signs) (D_is_sign : Dn K mg "is_sign" s_is_sign ["sign"] f_is_sign fd_is_sign) (G_is_sign : FnOk P w K mg base CX0 1 f_is_sign fd_is_sign ["sign"] spIsSign) : FnOk P w K mg base CX0 2 f_are_signs fd_are_signs ["text"] spAreSigns := by
  refine D_are_signs.fn.ok sc_are_signs (fun vs H Q E h => ?_) (fun cdv A outer s H vs Q E hr h => ?_)
  · obtain ⟨x, rfl, _⟩ := h
    rfl
  · obtain ⟨x, rfl, hx, k⟩ := h
    refine ⟨_, (pss_one (ps_ret (pe_callB (call_all_bl rfl) rfl T.z_all bo_all (pa_cons (pe_comp (N := ["sign"]) rfl (fun _ => ⟨[], CompSc.plain (by decide +kernel) rfl (by decide +kernel) (by decide +kernel)⟩) (pi_txt (pv 0)) (fun _ _ _ _ _ _ _ => (pg_name (i := 0) (show (["sign"] : List Str).Nodup by decide +kernel) rfl (Or.inl rfl))) (fun _ _ _ _ _ _ _ => (pe_call G_is_sign (hr.mono (by decide)) rfl D_is_sign.m D_is_sign.fn.kp D_is_sign.b .nil pass0 (pa_cons (pv 0) pa_nil)))) pa_nil)))), ?_⟩
    refine ⟨_, rfl, x, rfl, fun l hl => ?_⟩
    refine ⟨fun i m ys H2 => m = x.cps.size - i ∧ i ≤ x.cps.size ∧ Same H H2 ∧ H2 l = some (.lst ys) ∧ ys = ((x.cps.toList.take i).map isSignN).map V.bl, ⟨x.cps.size, rfl, Nat.zero_le _, Same.upd hl, upd_same, rfl⟩, ?_⟩
    rintro i m ys H2 ⟨rfl, hi, s2, hl2, rfl⟩
    by_cases hlt : i < x.cps.size
    · refine .inr ⟨hlt, ?_⟩
      rintro y H3 ⟨rfl, c, ec, rfl⟩
      refine ⟨Kp.rep _ _, ?_⟩
      refine ⟨_, rfl, c, rfl, ?_⟩
      refine ⟨hl2, ?_, x.cps.size - (i + 1), by omega, rfl, hlt, Same.at s2 hl, upd_same, ?_⟩
      · rw [List.length_map, List.length_map, List.length_take]
        exact Nat.lt_of_le_of_lt (show min i x.cps.toList.length ≤ 1000 by omega) (by decide)
      · rw [take_snoc (x := c) (by rw [Array.getElem?_toList]; exact ec), List.map_append, List.map_append]
        rfl
    · have ei : i = x.cps.size := by omega
      subst ei
      refine .inl ⟨Nat.le_refl _, ?_⟩
      rw [List.take_of_length_le (by rw [Array.length_toList]; exact Nat.le_refl _)] at hl2
      refine ⟨l, _, rfl, SqL.of hl2, ?_⟩
      have e : (x.cps.toList.map isSignN).all id = x.cps.toList.all isSignN := by rw [List.all_map]; rfl
      rw [e]
      exact k H2 s2
theorem ok_check_signs {f_check_signs f_are_signs : Addr} {fd_check_signs fd_are_signs : FuncData} {p : Pm} (T : Txt K mg p) (D_check_signs : Dn K mg "check_signs" s_check_signs ["signs"] f_check_signs fd_check_signs) (D_are_signs : Dn K mg "are_signs" s_are_signs ["text"] f_are_signs fd_are_signs) (G_are_signs : FnOk P w K mg base CX0 2 f_are_signs fd_are_signs ["text"] spAreSigns) : FnOk P w K mg base CX0 3 f_check_signs fd_check_signs ["signs"] spCheckSigns := by
  refine D_check_signs.fn.ok sc_check_signs (fun vs H Q E h => ?_) (fun cdv A outer s H vs Q E hr h => ?_)
  · obtain ⟨x, rfl, _⟩ := h
    rfl
  · obtain ⟨x, rfl, ⟨h1, h2, h3, h4⟩, k⟩ := h
    refine ⟨_, (pss_cons (ps_if (pt_cmpR op_eq (pe_callB (call_len) rfl T.z_len bo_len (pa_cons (pv 0) pa_nil)) pe_int (nomark _)) pss_never pss_nil)
      (pss_cons (ps_if (pt_not (pt_val (pe_call G_are_signs (hr.mono (by decide)) rfl D_are_signs.m D_are_signs.fn.kp D_are_signs.b .nil pass0 (pa_cons (pv 0) pa_nil)))) pss_never pss_nil)
      (pss_one (ps_if (pt_cmpR op_ne (pe_callB (call_len_setT) rfl T.z_len bo_len (pa_cons (pe_callTy (call_setT rfl) rfl T.z_set bo_set (pa_cons (pv 0) pa_nil)) pa_nil)) (pe_callB (call_len) rfl T.z_len bo_len (pa_cons (pv 0) pa_nil)) (nomark _)) pss_never pss_nil)))), ?_⟩
    have hz : x.length ≤ sizeLine := Nat.le_trans h2 (by decide)
    refine ⟨_, rfl, _, _, rfl, ⟨hz, rfl⟩, rfl, _, rfl, ?_⟩
    refine ite_eq (fun z => absurd z (by show ¬ ((x.cps.size : Nat) : Int) = 0; omega)) fun _ => ?_
    refine ⟨_, rfl, x, rfl, Nat.le_trans h2 (by decide), fun H2 s2 => ?_⟩
    refine ⟨_, rfl, ?_⟩
    rw [List.all_eq_true.mpr h3]
    refine iteNT ?_
    refine ⟨_, rfl, x, rfl, Nat.lt_of_le_of_lt (Nat.succ_le_succ h2) (by decide), fun p hp => ?_⟩
    refine ⟨p, _, rfl, upd_same, _, rfl, _, _, rfl, ⟨hz, rfl⟩, rfl, _, rfl, ?_⟩
    refine ite_ne (fun z => absurd (by rw [met_signs h4]; rfl) z) fun _ => ?_
    exact k _ (s2.trans (Same.upd hp))
theorem ok_check_lengths_prices {f_check_lengths_prices : Addr} {fd_check_lengths_prices : FuncData} {p : Pm} (T : Txt K mg p) (D_check_lengths_prices : Da K mg "check_lengths_prices" "check_lengths" s_check_lengths_prices ["signs", "pairs"] f_check_lengths_prices fd_check_lengths_prices)  : FnOk P w K mg base CX0 1 f_check_lengths_prices fd_check_lengths_prices ["signs", "pairs"] (spCheckLengths K) := by
  refine D_check_lengths_prices.fn.ok sc_check_lengths_prices (fun vs H Q E h => ?_) (fun cdv A outer s H vs Q E hr h => ?_)
  · obtain ⟨x, c, rows, rfl, _⟩ := h
    rfl
  · obtain ⟨x, c, rows, rfl, ⟨nc, cs, ncs, hc, hp⟩, hx, ⟨hq1, hq2⟩, k⟩ := h
    refine ⟨_, (pss_cons (ps_if (pt_cmpR op_ne (pe_callB (call_len) rfl T.z_len bo_len (pa_cons (pv 1) pa_nil)) (pe_callB (call_len) rfl T.z_len bo_len (pa_cons (pv 0) pa_nil)) (nomark _)) pss_never pss_nil)
      (pss_one (ps_for PassesOwn.never rfl (pi_cp (pv 1)) (pg_name (i := 2) sc_check_lengths_prices.nd rfl (Or.inl rfl)) (pss_one (ps_if (pt_cmpR op_ne (pe_callB (call_len) rfl T.z_len bo_len (pa_cons (pv 2) pa_nil)) (pe_callB (call_len) rfl T.z_len bo_len (pa_cons (pv 0) pa_nil)) (nomark _)) pss_never pss_nil))))), ?_⟩
    have hz : x.length ≤ sizeLine := Nat.le_trans hx (by decide)
    have hl : (cs.map Cp.val).length = x.cps.size := by rw [List.length_map, Paired.len hp, hq1]
    refine ⟨_, rfl, _, _, rfl, cp_len hc nc, _, rfl, _, _, rfl, ⟨hz, rfl⟩, rfl, _, rfl, ?_⟩
    refine ite_ne (fun z => absurd (by rw [hl]; rfl) z) fun _ => ?_
    refine ⟨_, rfl, c, _, rfl, hc, for_cp (K := K) (c := c) (xs := cs.map Cp.val) (fun i σ H2 => H2 = H ∧ ∃ v, σ = [some (.str x), some c.val, v]) ⟨rfl, _, rfl⟩ (fun i σ H2 _ ⟨e, _⟩ => by subst e; exact hc) ?_ ?_⟩
    · rintro i y σ H2 hy ⟨rfl, v, rfl⟩
      obtain ⟨d, ed, rfl⟩ : ∃ d, cs[i]? = some d ∧ y = d.val := by
        rw [List.getElem?_map] at hy
        cases e : cs[i]? with
        | none => rw [e] at hy; cases hy
        | some d => rw [e] at hy; exact ⟨d, rfl, (Option.some.inj hy).symm⟩
      obtain ⟨row, er, hr2⟩ := Paired.at hp ed
      refine ⟨_, rfl, _, _, rfl, hr2.len (ncs d (List.mem_of_getElem? ed)), _, rfl, _, _, rfl, ⟨hz, rfl⟩, rfl, _, rfl, ?_⟩
      refine ite_ne (fun z => absurd (by rw [hq2 row (List.mem_of_getElem? er)]; rfl) z) fun _ => ?_
      exact ⟨rfl, _, rfl⟩
    · rintro σ H2 ⟨rfl, v, rfl⟩
      exact k
end
section
variable {P : Program} {w : World} {K : PySem.W.Frag} {mg : Str → Option Value} {base : Heap}
theorem ok_costs_by_signs {f_costs_by_signs f_by_unit : Addr} {fd_costs_by_signs fd_by_unit : FuncData} {p : Pm} (T : Txt K mg p) (D_costs_by_signs : Dn K mg "costs_by_signs" s_costs_by_signs ["signs", "pairs", "unit"] f_costs_by_signs fd_costs_by_signs) (D_by_unit : Dn K mg "by_unit" s_by_unit ["price", "unit"] f_by_unit fd_by_unit) (G_by_unit : FnOk P w K mg base CX0 1 f_by_unit fd_by_unit ["price", "unit"] (spByUnit K)) : FnOk P w K mg base CX0 2 f_costs_by_signs fd_costs_by_signs ["signs", "pairs", "unit"] (spCosts K) := by
  refine D_costs_by_signs.fn.ok sc_costs_by_signs (fun vs H Q E h => ?_) (fun cdv A outer s H vs Q E hr h => ?_)
  · obtain ⟨x, Pp, u, rows, rfl, _⟩ := h
    rfl
  · obtain ⟨x, Pp, u, rows, rfl, hM, hx, nd, ⟨hq1, hq2⟩, ho, k⟩ := h
    refine ⟨_, (pss_cons (ps_set (i := 3) sc_costs_by_signs.nd rfl (Or.inl rfl) pe_dnewT)
      (pss_cons (ps_for PassesOwn.never rfl (pi_zip rfl rfl T.z_zip (pa_cons (pv 0) (pa_cons (pv 1) pa_nil))) (pg_tup (n := 2) rfl (pgs_cons (pg_name (i := 4) sc_costs_by_signs.nd rfl (Or.inl rfl)) (pgs_cons (pg_name (i := 5) sc_costs_by_signs.nd rfl (Or.inl rfl)) pgs_nil))) (pss_one (ps_for PassesOwn.never rfl (pi_zip rfl rfl T.z_zip (pa_cons (pv 0) (pa_cons (pv 5) pa_nil))) (pg_tup (n := 2) rfl (pgs_cons (pg_name (i := 6) sc_costs_by_signs.nd rfl (Or.inl rfl)) (pgs_cons (pg_name (i := 7) sc_costs_by_signs.nd rfl (Or.inl rfl)) pgs_nil))) (pss_one (ps_dput (hu_of hr) (pv 3) (pe_tup (pa_cons (pv 4) (pa_cons (pv 6) pa_nil))) (pe_call G_by_unit (hr.mono (by decide)) rfl D_by_unit.m D_by_unit.fn.kp D_by_unit.b .nil pass0 (pa_cons (pv 7) (pa_cons (pv 2) pa_nil))) rfl)))))
      (pss_one (ps_ret (pv 3))))), ?_⟩
    intro d hd
    obtain ⟨qs, hqs, hp⟩ := hM
    have hlen : qs.length = x.cps.size := by rw [Paired.len hp, hq1]
    have hmin : min (signsV x).length (qs.map V.ref).length = x.cps.size := by rw [signs_length, List.length_map, hlen, Nat.min_self]
    refine ⟨_, rfl, _, rfl, .txt x, .tup Pp, _, _, rfl, rfl, Dat.tup (Dat.of (Same.upd hd)) hqs, for_zip (K := K) (c := .txt x) (d := .tup Pp) (xs := signsV x) (ys := qs.map V.ref) (fun i σ H2 => ∃ kvs v4 v5 v6 v7, σ = [some (.str x), some (.ref Pp), some (.int u), some (.ref d), v4, v5, v6, v7] ∧ Same H H2 ∧ H2 d = some (.dT kvs) ∧ kvs.length ≤ i * x.cps.size ∧ CostTo kvs x rows u i 0)
      ⟨[], _, _, _, _, rfl, Same.upd hd, upd_same, Nat.zero_le _, CostTo.nil x rows u⟩ (fun i σ H2 _ ⟨kvs, v4, v5, v6, v7, _, s2, _⟩ => ⟨rfl, Dat.tup (Dat.of s2) hqs⟩) ?_ ?_⟩
    · rintro i y z p1 σ H2 hy hz hp1 ⟨kvs, v4, v5, v6, v7, rfl, s2, hd2, hk, hc⟩
      obtain ⟨a, ha, rfl⟩ := signs_get hy
      obtain ⟨q, hq, rfl⟩ := map_at hz
      obtain ⟨row, er, hrow⟩ := Paired.at hp hq
      have hi : i < x.cps.size := by rw [← hlen]; exact (List.getElem?_eq_some_iff.mp hq).1
      obtain ⟨ps, hps, hpp⟩ := hrow
      have hpl : ps.length = x.cps.size := by rw [Paired.len hpp, hq2 row (List.mem_of_getElem? er)]
      have hmin2 : min (signsV x).length (ps.map V.ref).length = x.cps.size := by rw [signs_length, List.length_map, hpl, Nat.min_self]
      refine ⟨p1, _, rfl, SqT.of upd_same, rfl, _, _, rfl, _, _, rfl, rfl, ?_⟩
      have nd1 : d ≠ p1 := ne_of_none hd2 hp1
      refine ⟨_, rfl, _, rfl, .txt x, .tup q, _, _, rfl, rfl, Dat.tup (Dat.of (s2.trans (Same.upd hp1))) hps, for_zip (K := K) (c := .txt x) (d := .tup q) (xs := signsV x) (ys := ps.map V.ref)
        (fun j σ H3 => ∃ kvs v6 v7, σ = [some (.str x), some (.ref Pp), some (.int u), some (.ref d), some (.str ⟨#[a]⟩), some (.ref q), v6, v7] ∧ Same H H3 ∧ H3 d = some (.dT kvs) ∧ kvs.length ≤ i * x.cps.size + j ∧ CostTo kvs x rows u i j)
        ⟨kvs, v6, v7, rfl, s2.trans (Same.upd hp1), by rw [upd_ne nd1]; exact hd2, hk, hc⟩ (fun j σ H3 _ ⟨kvs, v6, v7, _, s3, _⟩ => ⟨rfl, Dat.tup (Dat.of s3) hps⟩) ?_ ?_⟩
      · rintro j y z p2 σ H3 hy hz hp2 ⟨kvs, v6, v7, rfl, s3, hd3, hk, hc⟩
        obtain ⟨b, hb, rfl⟩ := signs_get hy
        obtain ⟨pr, hpr, rfl⟩ := map_at hz
        obtain ⟨f, ef, hf⟩ := Paired.at hpp hpr
        have hj : j < x.cps.size := by rw [← hpl]; exact (List.getElem?_eq_some_iff.mp hpr).1
        obtain ⟨o1, o2, o3⟩ := ho row (List.mem_of_getElem? er) f (List.mem_of_getElem? ef)
        refine ⟨p2, _, rfl, SqT.of upd_same, rfl, _, _, rfl, _, _, rfl, rfl, ?_⟩
        have s4 := s3.trans (Same.upd (o := .tup [.str ⟨#[b]⟩, .ref pr]) hp2)
        have hd4 : upd H3 p2 (.tup [.str ⟨#[b]⟩, .ref pr]) d = some (.dT kvs) := by rw [upd_ne (ne_of_none hd3 hp2)]; exact hd3
        refine ⟨_, rfl, _, rfl, pr, f, u, rfl, hf.same s4, o1, o2.bg, o3.bg, ?_⟩
        refine ⟨_, rfl, _, rfl, _, rfl, by show 2 ≤ sizeLine; decide, fun t ht => ?_⟩
        have hd5 : upd (upd H3 p2 (.tup [.str ⟨#[b]⟩, .ref pr])) t (.tup [.str ⟨#[a]⟩, .str ⟨#[b]⟩]) d = some (.dT kvs) := by rw [upd_ne (ne_of_none hd4 ht)]; exact hd4
        have hsz : kvs.length < sizeLine := by
          have : i * x.cps.size ≤ 100 * 100 := Nat.mul_le_mul (by omega) hx
          have : kvs.length < 20000 := by omega
          exact Nat.lt_of_lt_of_le this (by decide)
        refine ⟨d, _, rfl, DPut.t (k := keyOf a b) hd5 upd_same hsz, ?_⟩
        refine ⟨putK kvs (keyOf a b) (.int (f.1 * (u / f.2))), _, _, rfl, Same.at (s4.trans (Same.upd ht)) hd, upd_same, ?_, hc.put nd ha hb ⟨row, er, ef⟩⟩
        have := length_putK kvs (keyOf a b) (.int (f.1 * (u / f.2)))
        omega
      · rintro σ H3 ⟨kvs, v6, v7, rfl, s3, hd3, hk, hc⟩
        rw [hmin2] at hk hc
        refine ⟨kvs, _, _, _, _, rfl, s3, hd3, ?_, hc.row (Nat.le_refl _)⟩
        rw [Nat.succ_mul]
        exact hk
    · rintro σ H2 ⟨kvs, v4, v5, v6, v7, rfl, s2, hd2, hk, hc⟩
      rw [hmin] at hc
      exact ⟨_, rfl, k d H2 kvs s2 hd hd2 (hc.all (Nat.le_refl _))⟩
theorem ok_pair_cost {f_pair_cost : Addr} {fd_pair_cost : FuncData} {p : Pm} (T : Txt K mg p) (D_pair_cost : Dn K mg "pair_cost" s_pair_cost ["prices", "one", "other"] f_pair_cost fd_pair_cost)  : FnOk P w K mg base CX0 1 f_pair_cost fd_pair_cost ["prices", "one", "other"] (spPairCost K p.C_Prices) := by
  refine D_pair_cost.fn.ok sc_pair_cost (fun vs H Q E h => ?_) (fun cdv A outer s H vs Q E hr h => ?_)
  · obtain ⟨x, sg, rows, fo, fm, i, j, a, b, f, rfl, _⟩ := h
    rfl
  · obtain ⟨x, sg, rows, fo, fm, i, j, a, b, f, rfl, ⟨_, _, _, _, _, _, _, dx, Pp, o, m, d, kvs, h1, h2, h3, h4, h5, h6⟩, ha, hb, hf, k⟩ := h
    refine ⟨_, (pss_one (ps_ret (pe_dget (hu_of hr) (pe_fld (pv 0) rfl) (pe_tup (pa_cons (pv 1) (pa_cons (pv 2) pa_nil))) (fun _ _ => rfl)))), ?_⟩
    refine ⟨_, rfl, x, _, _, _, _, rfl, h1, T.cl_Prices, T.n_Prices_costs, flds_costs, ?_⟩
    refine ⟨_, rfl, _, rfl, by show 2 ≤ sizeLine; decide, fun t ht => ?_⟩
    have hd5 : upd H t (.tup [.str ⟨#[a]⟩, .str ⟨#[b]⟩]) d.1 = some (.dT kvs) := by rw [upd_ne (ne_of_none h5 ht)]; exact h5
    have z := DGet.t (k := keyOf a b) hd5 upd_same
    rw [h6.1 i j a b f ha hb hf] at z
    exact ⟨d.1, _, rfl, z, k _ (Same.upd ht)⟩
theorem ok_more_cost {f_more_cost : Addr} {fd_more_cost : FuncData} {p : Pm} (T : Txt K mg p) (D_more_cost : Dn K mg "more_cost" s_more_cost ["prices"] f_more_cost fd_more_cost)  : FnOk P w K mg base CX0 2 f_more_cost fd_more_cost ["prices"] (spMore K p.C_Prices) := by
  refine D_more_cost.fn.ok sc_more_cost (fun vs H Q E h => ?_) (fun cdv A outer s H vs Q E hr h => ?_)
  · obtain ⟨x, sg, rows, fo, fm, rfl, _⟩ := h
    rfl
  · obtain ⟨x, sg, rows, fo, fm, rfl, ⟨_, _, _, _, _, _, _, dx, Pp, o, m, d, kvs, h1, h2, h3, h4, h5, h6⟩, k⟩ := h
    refine ⟨_, (pss_one (ps_ret (pe_fld (pv 0) rfl))), ?_⟩
    exact ⟨_, rfl, x, _, _, _, _, rfl, h1, T.cl_Prices, T.n_Prices_more_units, flds_more_units, k⟩
theorem ok_in_units {f_in_units f_greatest_divisor : Addr} {fd_in_units fd_greatest_divisor : FuncData} {p : Pm} (T : Txt K mg p) (D_in_units : Dn K mg "in_units" s_in_units ["prices", "number"] f_in_units fd_in_units) (D_greatest_divisor : Dn K mg "greatest_divisor" s_greatest_divisor ["one", "other"] f_greatest_divisor fd_greatest_divisor) (G_greatest_divisor : FnOk P w K mg base CX0 1 f_greatest_divisor fd_greatest_divisor ["one", "other"] spGcd) : FnOk P w K mg base CX0 2 f_in_units fd_in_units ["prices", "number"] (spInUnits K p.C_Prices) := by
  refine D_in_units.fn.ok sc_in_units (fun vs H Q E h => ?_) (fun cdv A outer s H vs Q E hr h => ?_)
  · obtain ⟨x, n, sg, rows, fo, fm, rfl, _⟩ := h
    rfl
  · obtain ⟨x, n, sg, rows, fo, fm, rfl, ⟨_, _, _, _, _, u1, u2, dx, Pp, o, m, d, kvs, h1, h2, h3, h4, h5, h6, fs, h7, h8, h9⟩, k⟩ := h
    refine ⟨_, (pss_cons (ps_set (i := 2) sc_in_units.nd rfl (Or.inl rfl) (pv 1))
      (pss_cons (ps_set (i := 3) sc_in_units.nd rfl (Or.inl rfl) pe_int)
      (pss_cons (ps_for PassesOwn.never rfl (pi_list (pe_fld (pv 0) rfl)) (pg_name (i := 4) sc_in_units.nd rfl (Or.inl rfl)) (pss_cons (ps_set (i := 5) sc_in_units.nd rfl (Or.inl rfl) (pe_call G_greatest_divisor (hr.mono (by decide)) rfl D_greatest_divisor.m D_greatest_divisor.fn.kp D_greatest_divisor.b .nil pass0 (pa_cons (pv 2) (pa_cons (pv 4) pa_nil))))
      (pss_cons (ps_set (i := 2) sc_in_units.nd rfl (Or.inl rfl) (pe_op op_fdiv (pv 2) (pv 5)))
      (pss_one (ps_set (i := 3) sc_in_units.nd rfl (Or.inl rfl) (pe_op op_mul (pv 3) (pe_op op_fdiv (pv 4) (pv 5))))))))
      (pss_one (ps_ret (pe_tup (pa_cons (pv 2) (pa_cons (pv 3) pa_nil)))))))), ?_⟩
    refine ⟨_, rfl, _, rfl, x, _, _, _, _, rfl, h1, T.cl_Prices, T.n_Prices_factors, flds_factors, d.2, rfl, ⟨_, SqL.of h9⟩, for_list (K := K) (a := d.2) (xs := fs.map V.int) (fun i σ H2 => H2 = H ∧ ∃ (ov un : Int) (v4 v5 : Option V), σ = [some (.ref x), some (.int n), some (.int ov), some (.int un), v4, v5] ∧ 0 < un ∧ Int.gcd ov un = 1 ∧ ov * prodI (fs.take i) = n * un)
      ⟨rfl, n, 1, _, _, rfl, by decide, Int.gcd_one_right n, by show n * prodI [] = n * 1; rfl⟩ (fun i σ H2 _ ⟨e, _⟩ => by subst e; exact SqL.of h9) ?_ ?_⟩
    · rintro i y σ H2 hy ⟨rfl, ov, un, v4, v5, rfl, hun, hg, he⟩
      obtain ⟨b, eb, rfl⟩ := map_at hy
      obtain ⟨b1, b2⟩ := h7 b (List.mem_of_getElem? eb)
      have g1 := gcd_pos ov b1
      have g2 := gcd_le ov b1
      have d1 : 0 < b / (Int.gcd ov b : Int) := Int.ediv_pos_of_pos_of_dvd b1 (Int.le_of_lt g1) (Int.gcd_dvd_right ov b)
      have d2 : b / (Int.gcd ov b : Int) ≤ b := Int.ediv_le_self _ (Int.le_of_lt b1)
      refine ⟨_, rfl, _, rfl, ov, b, rfl, Int.le_of_lt b1, _, rfl, _, rfl, _, _, rfl, rfl, ⟨g1, by omega⟩, _, rfl, _, rfl, _, rfl, _, _, rfl, rfl, ⟨g1, by omega⟩, _, _, rfl, rfl, .inr ⟨by omega, by omega⟩, ?_⟩
      refine ⟨rfl, _, _, _, _, rfl, Int.mul_pos hun d1, cop_step b1 hg, ?_⟩
      rw [take_snoc eb, prodI_snoc]
      exact cross_step he
    · rintro σ H2 ⟨rfl, ov, un, v4, v5, rfl, hun, hg, he⟩
      rw [List.length_map, List.take_of_length_le (Nat.le_refl _), h8] at he
      have el := lo_eq u1 hun hg he
      refine ⟨_, rfl, _, rfl, by show 2 ≤ sizeLine; decide, fun q hq => k q _ (Same.upd hq) hq ?_⟩
      rw [upd_same, el]
end
section
variable {P : Program} {w : World} {K : PySem.W.Frag} {mg : Str → Option Value} {base : Heap}
theorem ok_Prices___init__ {f_Prices___init__ f_check_signs f_check_lengths_prices f_lowest_prices f_lowest_price f_all_unders f_unit_factors f_product_of f_costs_by_signs f_by_unit : Addr} {fd_Prices___init__ fd_check_signs fd_check_lengths_prices fd_lowest_prices fd_lowest_price fd_all_unders fd_unit_factors fd_product_of fd_costs_by_signs fd_by_unit : FuncData} {p : Pm} (T : Txt K mg p) (D_Prices___init__ : Dm K "__init__" "Prices.__init__" s_Prices___init__ ["self", "signs", "pairs", "opening", "more"] f_Prices___init__ fd_Prices___init__) (D_check_signs : Dn K mg "check_signs" s_check_signs ["signs"] f_check_signs fd_check_signs) (G_check_signs : FnOk P w K mg base CX0 3 f_check_signs fd_check_signs ["signs"] spCheckSigns) (D_check_lengths_prices : Da K mg "check_lengths_prices" "check_lengths" s_check_lengths_prices ["signs", "pairs"] f_check_lengths_prices fd_check_lengths_prices) (G_check_lengths_prices : FnOk P w K mg base CX0 1 f_check_lengths_prices fd_check_lengths_prices ["signs", "pairs"] (spCheckLengths K)) (D_lowest_prices : Dn K mg "lowest_prices" s_lowest_prices ["row"] f_lowest_prices fd_lowest_prices) (G_lowest_prices : FnOk P w K mg base CX0 4 f_lowest_prices fd_lowest_prices ["row"] (spLowPrices K)) (D_lowest_price : Dn K mg "lowest_price" s_lowest_price ["price"] f_lowest_price fd_lowest_price) (G_lowest_price : FnOk P w K mg base CX0 3 f_lowest_price fd_lowest_price ["price"] (spLowPrice K)) (D_all_unders : Dn K mg "all_unders" s_all_unders ["pairs", "opening", "more"] f_all_unders fd_all_unders) (G_all_unders : FnOk P w K mg base CX0 1 f_all_unders fd_all_unders ["pairs", "opening", "more"] (spUnders K)) (D_unit_factors : Dn K mg "unit_factors" s_unit_factors ["unders"] f_unit_factors fd_unit_factors) (G_unit_factors : FnOk P w K mg base CX0 2 f_unit_factors fd_unit_factors ["unders"] (spFactors K)) (D_product_of : Dn K mg "product_of" s_product_of ["factors"] f_product_of fd_product_of) (G_product_of : FnOk P w K mg base CX0 1 f_product_of fd_product_of ["factors"] (spProd K)) (D_costs_by_signs : Dn K mg "costs_by_signs" s_costs_by_signs ["signs", "pairs", "unit"] f_costs_by_signs fd_costs_by_signs) (G_costs_by_signs : FnOk P w K mg base CX0 2 f_costs_by_signs fd_costs_by_signs ["signs", "pairs", "unit"] (spCosts K)) (D_by_unit : Dn K mg "by_unit" s_by_unit ["price", "unit"] f_by_unit fd_by_unit) (G_by_unit : FnOk P w K mg base CX0 1 f_by_unit fd_by_unit ["price", "unit"] (spByUnit K)) : FnOk P w K mg base CX0 5 f_Prices___init__ fd_Prices___init__ ["self", "signs", "pairs", "opening", "more"] (spInit K p.C_Prices) := by
  refine D_Prices___init__.fn.ok sc_Prices___init__ (fun vs H Q E h => ?_) (fun cdv A outer s H vs Q E hr h => ?_)
  · obtain ⟨x, dx, o, m, sg, c, rows, fo, fm, rfl, _⟩ := h
    rfl
  · obtain ⟨x, dx, o, m, sg, c, rows, fo, fm, rfl, hx, hS, h12, hM, hsq, hok, hfo, oko, hfm, okm, k⟩ := h
    have S := hS
    obtain ⟨q1, q2, q3, q4⟩ := S
    refine ⟨_, (pss_cons (ps_expr (pe_call G_check_signs (hr.mono (by decide)) rfl D_check_signs.m D_check_signs.fn.kp D_check_signs.b .nil pass0 (pa_cons (pv 1) pa_nil)))
      (pss_cons (ps_expr (pe_call G_check_lengths_prices (hr.mono (by decide)) rfl D_check_lengths_prices.m D_check_lengths_prices.fn.kp D_check_lengths_prices.b .nil pass0 (pa_cons (pv 1) (pa_cons (pv 2) pa_nil))))
      (pss_cons (ps_fld (pv 0) (pv 1) rfl)
      (pss_cons (ps_fld (pv 0) (pe_callTy (call_tuple_of) rfl T.z_tuple bo_tuple (pa_cons (pe_comp (N := ["row"]) rfl (fun _ => ⟨[], CompSc.plain (by decide +kernel) rfl (by decide +kernel) (by decide +kernel)⟩) (pi_cp (pv 2)) (fun _ _ _ _ _ _ _ => (pg_name (i := 0) (show (["row"] : List Str).Nodup by decide +kernel) rfl (Or.inl rfl))) (fun _ _ _ _ _ _ _ => (pe_call G_lowest_prices (hr.mono (by decide)) rfl D_lowest_prices.m D_lowest_prices.fn.kp D_lowest_prices.b .nil pass0 (pa_cons (pv 0) pa_nil)))) pa_nil)) rfl)
      (pss_cons (ps_fld (pv 0) (pe_call G_lowest_price (hr.mono (by decide)) rfl D_lowest_price.m D_lowest_price.fn.kp D_lowest_price.b .nil pass0 (pa_cons (pv 3) pa_nil)) rfl)
      (pss_cons (ps_fld (pv 0) (pe_call G_lowest_price (hr.mono (by decide)) rfl D_lowest_price.m D_lowest_price.fn.kp D_lowest_price.b .nil pass0 (pa_cons (pv 4) pa_nil)) rfl)
      (pss_cons (ps_fld (pv 0) (pe_call G_unit_factors (hr.mono (by decide)) rfl D_unit_factors.m D_unit_factors.fn.kp D_unit_factors.b .nil pass0 (pa_cons (pe_call G_all_unders (hr.mono (by decide)) rfl D_all_unders.m D_all_unders.fn.kp D_all_unders.b .nil pass0 (pa_cons (pe_fld (pv 0) rfl) (pa_cons (pe_fld (pv 0) rfl) (pa_cons (pe_fld (pv 0) rfl) pa_nil)))) pa_nil)) rfl)
      (pss_cons (ps_fld (pv 0) (pe_call G_product_of (hr.mono (by decide)) rfl D_product_of.m D_product_of.fn.kp D_product_of.b .nil pass0 (pa_cons (pe_fld (pv 0) rfl) pa_nil)) rfl)
      (pss_cons (ps_fld (pv 0) (pe_call G_costs_by_signs (hr.mono (by decide)) rfl D_costs_by_signs.m D_costs_by_signs.fn.kp D_costs_by_signs.b .nil pass0 (pa_cons (pe_fld (pv 0) rfl) (pa_cons (pe_fld (pv 0) rfl) (pa_cons (pe_fld (pv 0) rfl) pa_nil)))) rfl)
      (pss_cons (ps_fld (pv 0) (pe_call G_by_unit (hr.mono (by decide)) rfl D_by_unit.m D_by_unit.fn.kp D_by_unit.b .nil pass0 (pa_cons (pe_fld (pv 0) rfl) (pa_cons (pe_fld (pv 0) rfl) pa_nil))) rfl)
      (pss_one (ps_fld (pv 0) (pe_call G_by_unit (hr.mono (by decide)) rfl D_by_unit.m D_by_unit.fn.kp D_by_unit.b .nil pass0 (pa_cons (pe_fld (pv 0) rfl) (pa_cons (pe_fld (pv 0) rfl) pa_nil))) rfl)))))))))))), ?_⟩
    -- check_signs(signs)
    refine ⟨_, rfl, sg, rfl, hS, fun H1 s1 => ?_⟩
    -- check_lengths_prices(signs, pairs)
    refine ⟨_, rfl, _, rfl, sg, c, rows, rfl, hM.dat (Dat.of s1), by omega, hsq, ?_⟩
    -- self.signs = signs
    have hx1 : H1 x = some (.ins p.C_Prices dx []) := s1 _ _ hx
    refine ⟨_, rfl, _, rfl, x, _, dx, _, rfl, hx1, T.cl_Prices, T.n_Prices_signs, by decide, ?_⟩
    generalize hH2 : upd H1 x (.ins p.C_Prices dx (putF "signs" (.str sg) [])) = H2
    have hx2 : H2 x = some (.ins p.C_Prices dx (putF "signs" (.str sg) [])) := by rw [← hH2]; exact upd_same
    have f2 : Off x H H2 := by rw [← hH2]; exact (Off.of s1).trans Off.set
    -- self.pairs = ..
    obtain ⟨nc, cs, ncs, hcs, hp⟩ := hM.dat (f2.dat hx)
    refine ⟨_, rfl, c, _, rfl, hcs, fun l hl0 => ?_⟩
    refine ⟨fun i n ys H3 => n = rows.length - i ∧ i ≤ rows.length ∧ Same H2 H3 ∧ H3 l = some (.lst ys) ∧ ∃ qs : List Addr, ys = qs.map V.ref ∧ qs.length = i ∧ Paired (fun q r => RowAt K H3 (.tup q) r) qs ((loR rows).take i), ⟨rows.length, rfl, Nat.zero_le _, Same.upd hl0, upd_same, [], rfl, rfl, .nil⟩, ?_⟩
    rintro i n ys H3 ⟨rfl, hi, s3, hl3, qs, rfl, hq, hP⟩
    have zc : c.at K H3 (cs.map Cp.val) := Same.cp s3 hcs
    have hcl := Paired.len hp
    by_cases hlt : i < rows.length
    · have hci : i < cs.length := by omega
      have e1 : (cs.map Cp.val)[i]? = some cs[i].val := by rw [List.getElem?_map, List.getElem?_eq_getElem hci]; rfl
      refine .inr ⟨⟨_, _, zc, e1⟩, ?_⟩
      rintro y H4 ⟨rfl, hy⟩
      have ey := hy _ zc
      rw [e1] at ey
      cases ey
      obtain ⟨r, er, hr2⟩ := Paired.at hp (List.getElem?_eq_getElem hci)
      have hrm := List.mem_of_getElem? er
      refine ⟨Kp.rep _ _, ?_⟩
      refine ⟨_, rfl, cs[i], r, rfl, hr2.same s3, fun f hf => (hok r hrm f hf).1, by rw [hsq.2 r hrm]; omega, fun q H5 s5 hqn hR => ?_⟩
      have hl5 : H5 l = some (.lst (qs.map V.ref)) := s5 _ _ hl3
      refine ⟨hl5, ?_, rows.length - (i + 1), by omega, rfl, hlt, Same.at (s3.trans s5) hl0, upd_same, qs ++ [q], by rw [List.map_append]; rfl, by rw [List.length_append, hq]; rfl, ?_⟩
      · rw [List.length_map, hq]
        have : i < 100 := by rw [hsq.1] at hlt; omega
        exact Nat.lt_of_lt_of_le this (by decide)
      · rw [show (loR rows).take (i + 1) = (loR rows).take i ++ [r.map loF] from map_take_snoc er]
        refine GP.Paired.snoc (Paired.mapP hP fun a b z => ?_) ?_
        · exact (z.same s5).off hl5
        · exact hR.off hl5
    · have ei : i = rows.length := by omega
      subst ei
      refine .inl ⟨⟨_, zc, by rw [List.length_map]; omega⟩, ?_⟩
      refine ⟨l, _, rfl, .inl ⟨SqL.of hl3, fun Pp hPn => ?_⟩⟩
      generalize hH4 : upd H3 Pp (.tup (qs.map V.ref)) = H4
      have s4 : Same H2 H4 := by rw [← hH4]; exact s3.trans (Same.upd hPn)
      have m4 : TMat K H4 Pp (loR rows) := by
        rw [← hH4]
        refine ⟨qs, SqT.of upd_same, ?_⟩
        rw [List.take_of_length_le (by unfold loR; rw [List.length_map]; exact Nat.le_refl _)] at hP
        exact Paired.mapP hP fun a b z => z.same (Same.upd hPn)
      have hx4 := s4 _ _ hx2
      refine ⟨_, rfl, x, _, dx, _, rfl, hx4, T.cl_Prices, T.n_Prices_pairs, pl1, ?_⟩
      generalize hH5 : upd H4 x (.ins p.C_Prices dx (putF "pairs" (.ref Pp) (putF "signs" (.str sg) []))) = H5
      have hx5 : H5 x = some (.ins p.C_Prices dx (putF "pairs" (.ref Pp) (putF "signs" (.str sg) []))) := by rw [← hH5]; exact upd_same
      have f5 : Off x H H5 := by rw [← hH5]; exact (f2.trans (Off.of s4)).trans Off.set
      have d5 : Dat H4 H5 := by rw [← hH5]; exact Dat.set hx4
      -- self.opening
      refine ⟨_, rfl, o, fo, rfl, hfo.dat (f5.dat hx), oko.1, fun o' ho' => ?_⟩
      generalize hH6 : upd H5 o' (.tup [.int (loF fo).1, .int (loF fo).2]) = H6
      have s6 : Same H5 H6 := by rw [← hH6]; exact Same.upd ho'
      have ho6 : FrAt K H6 o' (loF fo) := by rw [← hH6]; exact SqT.of upd_same
      have hx6 := s6 _ _ hx5
      refine ⟨_, rfl, x, _, dx, _, rfl, hx6, T.cl_Prices, T.n_Prices_opening, pl2, ?_⟩
      generalize hH7 : upd H6 x (.ins p.C_Prices dx (putF "opening" (.ref o') (putF "pairs" (.ref Pp) (putF "signs" (.str sg) [])))) = H7
      have hx7 : H7 x = some (.ins p.C_Prices dx (putF "opening" (.ref o') (putF "pairs" (.ref Pp) (putF "signs" (.str sg) [])))) := by rw [← hH7]; exact upd_same
      have f7 : Off x H H7 := by rw [← hH7]; exact (f5.trans (Off.of s6)).trans Off.set
      have d7 : Dat H6 H7 := by rw [← hH7]; exact Dat.set hx6
      -- self.more
      refine ⟨_, rfl, m, fm, rfl, hfm.dat (f7.dat hx), okm.1, fun m' hm' => ?_⟩
      generalize hH8 : upd H7 m' (.tup [.int (loF fm).1, .int (loF fm).2]) = H8
      have s8 : Same H7 H8 := by rw [← hH8]; exact Same.upd hm'
      have hm8 : FrAt K H8 m' (loF fm) := by rw [← hH8]; exact SqT.of upd_same
      have hx8 := s8 _ _ hx7
      refine ⟨_, rfl, x, _, dx, _, rfl, hx8, T.cl_Prices, T.n_Prices_more, pl3, ?_⟩
      generalize hH9 : upd H8 x (.ins p.C_Prices dx (putF "more" (.ref m') (putF "opening" (.ref o') (putF "pairs" (.ref Pp) (putF "signs" (.str sg) []))))) = H9
      have hx9 : H9 x = some (.ins p.C_Prices dx (putF "more" (.ref m') (putF "opening" (.ref o') (putF "pairs" (.ref Pp) (putF "signs" (.str sg) []))))) := by rw [← hH9]; exact upd_same
      have f9 : Off x H H9 := by rw [← hH9]; exact (f7.trans (Off.of s8)).trans Off.set
      have d9 : Dat H8 H9 := by rw [← hH9]; exact Dat.set hx8
      have e69 : Dat H6 H9 := d7.trans ((Dat.of s8).trans d9)
      have e49 : Dat H4 H9 := d5.trans ((Dat.of s6).trans e69)
      have M9 : TMat K H9 Pp (loR rows) := m4.dat e49
      have O9 : FrAt K H9 o' (loF fo) := ho6.dat e69
      have m9 : FrAt K H9 m' (loF fm) := hm8.dat d9
      have okl : ∀ r ∈ loR rows, ∀ f ∈ r, OkF f := loR_all fun r hr f hf => loF_ok (hok r hr f hf).1
      have sq9 := loR_sqr hsq
      -- self.factors
      refine ⟨_, rfl, x, _, _, _, _, rfl, hx9, T.cl_Prices, T.n_Prices_pairs, mk_pairs, _, rfl, x, _, _, _, _, rfl, hx9, T.cl_Prices, T.n_Prices_opening, mk_opening, _, rfl, x, _, _, _, _, rfl, hx9, T.cl_Prices, T.n_Prices_more, mk_more, ?_⟩
      refine ⟨Pp, o', m', loR rows, loF fo, loF fm, rfl, M9.mat, O9, m9, by rw [sq9.1]; exact h12, fun r hr => by rw [sq9.2 r hr]; exact h12, fun l1 Ha sa hl1 hla => ?_⟩
      have okU : ∀ n ∈ undersOf (loF fo) (loF fm) (loR rows), SmallP n := fun n hn => by
        have z : ∀ {f : Fra}, OkF f → SmallP f.2 := fun q => ⟨by have := q.1; omega, q.2⟩
        rcases List.mem_cons.mp hn with e | hn
        · rw [e]; exact z (loF_ok oko.1)
        rcases List.mem_cons.mp hn with e | hn
        · rw [e]; exact z (loF_ok okm.1)
        obtain ⟨f, hf, rfl⟩ := List.mem_map.mp hn
        obtain ⟨r, hr, hfr⟩ := List.mem_flatten.mp hf
        exact z (okl r hr f hfr)
      have lenU : (undersOf (loF fo) (loF fm) (loR rows)).length ≤ 1000 := by
        unfold undersOf
        rw [List.length_cons, List.length_cons, List.length_map, flat_len sq9.2, sq9.1]
        have : sg.cps.size * sg.cps.size ≤ 12 * 12 := Nat.mul_le_mul h12 h12
        omega
      refine ⟨l1, _, rfl, SqL.of hla, lenU, okU, fun fl Hb sb hfl hlb => ?_⟩
      have FI := facs_is okU
      have eU : prodI (facSt (undersOf (loF fo) (loF fm) (loR rows))).1 = unitOf (loF fo).2 (loF fm).2 (loR rows) := by rw [FI.prod, FI.unit, unders_unit]
      have hsm := FI.small
      generalize (facSt (undersOf (loF fo) (loF fm) (loR rows))).1 = fcs at hlb eU hsm
      clear FI
      have hxb := sb _ _ (sa _ _ hx9)
      refine ⟨_, rfl, x, _, dx, _, rfl, hxb, T.cl_Prices, T.n_Prices_factors, pl4, ?_⟩
      generalize hHc : upd Hb x (.ins p.C_Prices dx (putF "factors" (.ref fl) (putF "more" (.ref m') (putF "opening" (.ref o') (putF "pairs" (.ref Pp) (putF "signs" (.str sg) [])))))) = Hc
      have hxc : Hc x = some (.ins p.C_Prices dx (putF "factors" (.ref fl) (putF "more" (.ref m') (putF "opening" (.ref o') (putF "pairs" (.ref Pp) (putF "signs" (.str sg) [])))))) := by rw [← hHc]; exact upd_same
      have fc : Off x H Hc := by rw [← hHc]; exact ((f9.trans (Off.of sa)).trans (Off.of sb)).trans Off.set
      have dc : Dat H9 Hc := by rw [← hHc]; exact ((Dat.of sa).trans (Dat.of sb)).trans (Dat.set hxb)
      have hflc : Hc fl = some (.lst (fcs.map V.int)) := by rw [← hHc]; exact Dat.set hxb fl _ (fun _ _ _ z => by cases z) hlb
      -- self.unit
      refine ⟨_, rfl, x, _, _, _, _, rfl, hxc, T.cl_Prices, T.n_Prices_factors, mk_factors, fl, fcs, rfl, SqL.of hflc, hsm, ?_⟩
      have up := unit_pos (loF_ok oko.1) (loF_ok okm.1) okl
      have ub := unit_big h12 sq9 (loF_ok oko.1) (loF_ok okm.1) okl
      have okB : ∀ {f : Fra}, OkH f → OkB (unitOf (loF fo).2 (loF fm).2 (loR rows)) (loF f) := fun z => ⟨loF_ok z.1, loF_big z.2, Bu.div ub _⟩
      rw [eU]
      generalize hu : unitOf (loF fo).2 (loF fm).2 (loR rows) = u at *
      refine ⟨_, rfl, x, _, dx, _, rfl, hxc, T.cl_Prices, T.n_Prices_unit, pl5, ?_⟩
      generalize hH10 : upd Hc x (.ins p.C_Prices dx (putF "unit" (.int u) (putF "factors" (.ref fl) (putF "more" (.ref m') (putF "opening" (.ref o') (putF "pairs" (.ref Pp) (putF "signs" (.str sg) []))))))) = H10
      have hx10 : H10 x = some (.ins p.C_Prices dx (putF "unit" (.int u) (putF "factors" (.ref fl) (putF "more" (.ref m') (putF "opening" (.ref o') (putF "pairs" (.ref Pp) (putF "signs" (.str sg) []))))))) := by rw [← hH10]; exact upd_same
      have f10 : Off x H H10 := by rw [← hH10]; exact fc.trans Off.set
      have dc10 : Dat Hc H10 := by rw [← hH10]; exact Dat.set hxc
      have d10 : Dat H9 H10 := dc.trans dc10
      have hfl10 : H10 fl = some (.lst (fcs.map V.int)) := dc10 fl _ (fun _ _ _ z => by cases z) hflc
      -- self.costs
      refine ⟨_, rfl, x, _, _, _, _, rfl, hx10, T.cl_Prices, T.n_Prices_signs, mk_signs, _, rfl, x, _, _, _, _, rfl, hx10, T.cl_Prices, T.n_Prices_pairs, mk_pairs2, _, rfl, x, _, _, _, _, rfl, hx10, T.cl_Prices, T.n_Prices_unit, mk_unit, ?_⟩
      refine ⟨sg, Pp, u, loR rows, rfl, M9.dat d10, q2, q4, sq9, loR_all fun r hr f hf => okB (hok r hr f hf), fun d H11 kvs s11 hdn hd11 hc => ?_⟩
      have hx11 := s11 _ _ hx10
      refine ⟨_, rfl, x, _, dx, _, rfl, hx11, T.cl_Prices, T.n_Prices_costs, pl6, ?_⟩
      generalize hH12 : upd H11 x (.ins p.C_Prices dx (putF "costs" (.ref d) (putF "unit" (.int u) (putF "factors" (.ref fl) (putF "more" (.ref m') (putF "opening" (.ref o') (putF "pairs" (.ref Pp) (putF "signs" (.str sg) [])))))))) = H12
      have hx12 : H12 x = some (.ins p.C_Prices dx (flds6 sg Pp o' m' u (d, fl))) := by rw [← hH12]; exact upd_same
      have d12 : Dat H10 H12 := by rw [← hH12]; exact (Dat.of s11).trans (Dat.set hx11)
      have f12 : Off x H H12 := by rw [← hH12]; exact (f10.trans (Off.of s11)).trans Off.set
      have hd12 : H12 d = some (.dT kvs) := by rw [← hH12]; exact Dat.set hx11 d _ (fun _ _ _ z => by cases z) hd11
      -- self.opening_units, self.more_units
      obtain ⟨w1, w2, w3⟩ := okB oko
      obtain ⟨y1, y2, y3⟩ := okB okm
      refine ⟨_, rfl, x, _, _, _, _, rfl, hx12, T.cl_Prices, T.n_Prices_opening, flds6_opening, _, rfl, x, _, _, _, _, rfl, hx12, T.cl_Prices, T.n_Prices_unit, flds6_unit, o', loF fo, u, rfl, (O9.dat d10).dat d12, w1, w2.bg, w3.bg, ?_⟩
      refine ⟨_, rfl, x, _, dx, _, rfl, hx12, T.cl_Prices, T.n_Prices_opening_units, pl7, ?_⟩
      generalize hH13 : upd H12 x (.ins p.C_Prices dx (putF "opening_units" (.int ((loF fo).1 * (u / (loF fo).2))) (flds6 sg Pp o' m' u (d, fl)))) = H13
      have hx13 : H13 x = some (.ins p.C_Prices dx (putF "opening_units" (.int ((loF fo).1 * (u / (loF fo).2))) (flds6 sg Pp o' m' u (d, fl)))) := by rw [← hH13]; exact upd_same
      have d13 : Dat H12 H13 := by rw [← hH13]; exact Dat.set hx12
      have f13 : Off x H H13 := by rw [← hH13]; exact f12.trans Off.set
      refine ⟨_, rfl, x, _, _, _, _, rfl, hx13, T.cl_Prices, T.n_Prices_more, (flds7_opening (by decide +kernel)).trans flds6_more, _, rfl, x, _, _, _, _, rfl, hx13, T.cl_Prices, T.n_Prices_unit, (flds7_opening (by decide +kernel)).trans flds6_unit, m', loF fm, u, rfl, ((m9.dat d10).dat d12).dat d13, y1, y2.bg, y3.bg, ?_⟩
      refine ⟨_, rfl, x, _, dx, _, rfl, hx13, T.cl_Prices, T.n_Prices_more_units, pl8, ?_⟩
      have d14 : Dat H10 (upd H13 x (.ins p.C_Prices dx (flds sg Pp o' m' u (d, fl) ((loF fo).1 * (u / (loF fo).2)) ((loF fm).1 * (u / (loF fm).2))))) := d12.trans (d13.trans (Dat.set hx13))
      have f14 : Off x H (upd H13 x (.ins p.C_Prices dx (flds sg Pp o' m' u (d, fl) ((loF fo).1 * (u / (loF fo).2)) ((loF fm).1 * (u / (loF fm).2))))) := f13.trans Off.set
      refine k _ ⟨hS, sq9, ?_, ?_, ?_, ?_, ?_, dx, Pp, o', m', (d, fl), kvs, ?_, (M9.dat d10).dat d14, (O9.dat d10).dat d14, (m9.dat d10).dat d14, ?_, ?_, fcs, hsm, ?_, ?_⟩ f14 (fun c0 hc0 C' dx' fs' hx' hl' => ?_)
      · rw [hu]; exact loR_all fun r hr f hf => okB (hok r hr f hf)
      · rw [hu]; exact okB oko
      · rw [hu]; exact okB okm
      · rw [hu]; exact up
      · rw [hu]; exact ub
      · rw [hu]; exact upd_same
      · exact (d13.trans (Dat.set hx13)) d _ (fun _ _ _ z => by cases z) hd12
      · rw [hu]; exact hc
      · rw [hu]; exact eU
      · exact d14 fl _ (fun _ _ _ z => by cases z) hfl10
      · rw [upd_same] at hx'
        cases hx'
        have e : fl = c0 := V.ref.inj (Option.some.inj ((flds_factors (x := sg) (P := Pp) (o := o') (m := m') (u := u) (d := (d, fl))).symm.trans hl'))
        subst e
        cases q : H fl with
        | none => exact hc0 q
        | some u0 =>
          by_cases ex : fl = x
          · rw [ex, sa _ _ hx9] at hfl
            cases hfl
          · rw [(f9.trans (Off.of sa)) fl u0 q ex] at hfl
            cases hfl
end
section
variable {P : Program} {w : World} {K : PySem.W.Frag} {mg : Str → Option Value} {base : Heap}
theorem ok_law_next {f_law_next : Addr} {fd_law_next : FuncData} {p : Pm} (T : Txt K mg p) (D_law_next : Dn K mg "_law_next" s_law_next ["_law_script", "_law_at"] f_law_next fd_law_next)  : FnOk P w K mg base CX0 1 f_law_next fd_law_next ["_law_script", "_law_at"] (spNext K) := by
  refine D_law_next.fn.ok sc_law_next (fun vs H Q E h => ?_) (fun cdv A outer s H vs Q E hr h => ?_)
  · obtain ⟨s, t, ns, k, rfl, _⟩ := h
    rfl
  · obtain ⟨s, t, ns, k, rfl, hC, hk2, kk⟩ := h
    have hS := hC.scr
    have hS2 := hC.scr'
    have ht := hC.at_
    have hk := hC.k0
    refine ⟨_, (pss_cons (ps_asg (pe_op op_add (pe_ix ix_list (pv 1) pe_int (fun _ _ => rfl)) pe_int) (pg_sub (pv 1) pe_int set_list))
      (pss_cons (ps_set (i := 2) sc_law_next.nd rfl (Or.inl rfl) pe_int)
      (pss_cons (ps_if (pt_cmpR op_gt (pe_callB (call_len) rfl T.z_len bo_len (pa_cons (pv 0) pa_nil)) pe_int (nomark _)) (pss_one (ps_set (i := 2) sc_law_next.nd rfl (Or.inl rfl) (pe_ix ix_list (pv 0) (pe_op op_mod (pe_ix ix_list (pv 1) pe_int (fun _ _ => rfl)) (pe_callB (call_len) rfl T.z_len bo_len (pa_cons (pv 0) pa_nil))) (fun _ _ => rfl)))) pss_nil)
      (pss_cons (ps_set (i := 3) sc_law_next.nd rfl (Or.inl rfl) (pe_op op_mod (pe_op op_mul (pe_op op_add (pe_op op_add (pe_op op_mod (pv 2) pe_int) (pe_op op_mul (pe_op op_mul (pe_ix ix_list (pv 1) pe_int (fun _ _ => rfl)) (pe_ix ix_list (pv 1) pe_int (fun _ _ => rfl))) pe_int)) pe_int) pe_int) pe_int))
      (pss_one (ps_ret (pe_op op_mod (pe_op op_mul (pv 3) (pv 3)) pe_int))))))), ?_⟩
    -- _law_at[0] = _law_at[0] + 1
    refine ⟨_, rfl, t, _, _, _, rfl, rfl, SqL.of ht, rfl, _, _, rfl, rfl, _, rfl, t, _, _, 0, rfl, rfl, ht, rfl, ?_⟩
    -- _law_cell = 0; if len(..) > 0
    have hq : SqL K (upd H t (.lst [.int (k + 1)])) s (ns.map V.int) := hS2 _
    refine ⟨_, rfl, _, _, rfl, .inl ⟨_, hq, rfl⟩, _, _, rfl, rfl, _, rfl, ?_⟩
    have fin : ∀ c : Int, ∀ m1 : Int, m1 = (c % 2147483647 + (k + 1) * (k + 1) * 7919 + 11) * 48271 % 2147483647 → Q (.int (m1 * m1 % 1999999973)) (upd H t (.lst [.int (k + 1)])) := fun c m1 _ =>
      kk _ (Int.emod_nonneg _ (by decide)) (Int.emod_lt_of_pos _ (by decide))
    have rest : ∀ c : Int, Q (.int (((c % 2147483647 + (k + 1) * (k + 1) * 7919 + 11) * 48271 % 2147483647) * ((c % 2147483647 + (k + 1) * (k + 1) * 7919 + 11) * 48271 % 2147483647) % 1999999973)) (upd H t (.lst [.int (k + 1)])) := fun c => fin c _ rfl
    have hAt : SqL K (upd H t (.lst [.int (k + 1)])) t [.int (k + 1)] := SqL.of upd_same
    refine ite_dec (fun h0 => ?_) (fun h0 => ?_)
    · have hn : 0 < ns.length := by rw [List.length_map] at h0; omega
      have i1 := Int.emod_nonneg (k + 1) (show ((ns.length : Nat) : Int) ≠ 0 by omega)
      have i2 := Int.emod_lt_of_pos (k + 1) (show (0 : Int) < ((ns.length : Nat) : Int) by omega)
      obtain ⟨j, hj⟩ : ∃ j : Nat, (k + 1) % ((ns.length : Nat) : Int) = (j : Int) := ⟨_, (Int.toNat_of_nonneg i1).symm⟩
      have hjl : j < ns.length := by omega
      refine ⟨_, rfl, _, rfl, t, _, _, _, rfl, rfl, hAt, rfl, _, rfl, _, _, rfl, .inl ⟨_, hq, rfl⟩, _, _, rfl, rfl, (by show (0 : Int) < (((ns.map V.int).length : Nat) : Int); rw [List.length_map]; omega), ?_⟩
      refine ⟨s, _, _, .int ns[j], rfl, rfl, hq, ?_, ?_⟩
      · rw [List.length_map, hj]
        exact atI_nat (by rw [List.getElem?_map, List.getElem?_eq_getElem hjl]; rfl)
      · refine ⟨_, rfl, _, _, rfl, rfl, (by show (0 : Int) < _; decide), ?_⟩
        refine ⟨_, rfl, t, _, _, _, rfl, rfl, hAt, rfl, _, rfl, t, _, _, _, rfl, rfl, hAt, rfl, _, _, rfl, rfl, .inl ⟨by omega, by omega⟩, _, _, rfl, rfl, .inr ⟨by decide, by decide⟩, _, _, rfl, rfl, _, _, rfl, rfl, _, _, rfl, rfl, .inr ⟨by decide, by decide⟩, _, _, rfl, rfl, (by show (0 : Int) < _; decide), ?_⟩
        have m0 := Int.emod_nonneg ((ns[j] % 2147483647 + (k + 1) * (k + 1) * 7919 + 11) * 48271) (show (2147483647 : Int) ≠ 0 by decide)
        have m1 := Int.emod_lt_of_pos ((ns[j] % 2147483647 + (k + 1) * (k + 1) * 7919 + 11) * 48271) (show (0 : Int) < 2147483647 by decide)
        exact ⟨_, rfl, _, rfl, _, _, rfl, rfl, .inl ⟨by omega, by omega⟩, _, _, rfl, rfl, (by show (0 : Int) < _; decide), rest _⟩
    · refine ⟨_, rfl, _, _, rfl, rfl, (by show (0 : Int) < _; decide), ?_⟩
      refine ⟨_, rfl, t, _, _, _, rfl, rfl, hAt, rfl, _, rfl, t, _, _, _, rfl, rfl, hAt, rfl, _, _, rfl, rfl, .inl ⟨by omega, by omega⟩, _, _, rfl, rfl, .inr ⟨by decide, by decide⟩, _, _, rfl, rfl, _, _, rfl, rfl, _, _, rfl, rfl, .inr ⟨by decide, by decide⟩, _, _, rfl, rfl, (by show (0 : Int) < _; decide), ?_⟩
      have m0 := Int.emod_nonneg (((0 : Int) % 2147483647 + (k + 1) * (k + 1) * 7919 + 11) * 48271) (show (2147483647 : Int) ≠ 0 by decide)
      have m1 := Int.emod_lt_of_pos (((0 : Int) % 2147483647 + (k + 1) * (k + 1) * 7919 + 11) * 48271) (show (0 : Int) < 2147483647 by decide)
      exact ⟨_, rfl, _, rfl, _, _, rfl, rfl, .inl ⟨by omega, by omega⟩, _, _, rfl, rfl, (by show (0 : Int) < _; decide), rest _⟩
end
section
variable {P : Program} {w : World} {K : PySem.W.Frag} {mg : Str → Option Value} {base : Heap}
end
def PairsOk (K : PySem.W.Frag) (H : Hp) (t l : Addr) (n : Nat) (k : Int) (H2 : Hp) : Prop := ∃ rs rows, LMat K (Wo t H2) l rs rows ∧ Sqr n rows ∧ (∀ r ∈ rows, ∀ f ∈ r, OkL f) ∧ (∀ r ∈ rs, H r = none) ∧ Same (Wo t H) (Wo t H2) ∧ H2 t = some (.lst [.int k])
section
variable {P : Program} {w : World} {K : PySem.W.Frag} {mg : Str → Option Value} {base : Heap}
end
section
variable {P : Program} {w : World} {K : PySem.W.Frag} {mg : Str → Option Value} {base : Heap}
end
section
variable {P : Program} {w : World} {K : PySem.W.Frag} {mg : Str → Option Value} {base : Heap}
theorem ok_things_at {f_things_at : Addr} {fd_things_at : FuncData} {p : Pm} (T : Txt K mg p) (D_things_at : Dn K mg "things_at" s_things_at ["texts", "place"] f_things_at fd_things_at)  : FnOk P w K mg base CX0 1 f_things_at fd_things_at ["texts", "place"] (spThingsAt K) := by
  refine D_things_at.fn.ok sc_things_at (fun vs H Q E h => ?_) (fun cdv A outer s H vs Q E hr h => ?_)
  · obtain ⟨v, rs, n, rfl, _⟩ := h
    rfl
  · obtain ⟨v, rs, n, rfl, hR, hS, hn, k⟩ := h
    obtain ⟨c, rfl, hc⟩ := hR.cp
    have hz : rs.length < sizeLine := Nat.lt_of_le_of_lt hS.len (by decide)
    refine ⟨_, (pss_one (ps_ret (pe_bm PySem.F.plainAttrs_str PySem.F.slot_str_join PySem.F.type_str_join mt_join pe_str (pa_cons (pe_comp (N := ["text", "place"]) rfl (CompSc.freeB (nt := 1) (ix := [1]) rfl (by decide +kernel) (by decide +kernel) (by kernel_rfl) rfl (by kernel_rfl)) (pi_cp (pv 0)) (fun _ _ _ _ _ _ _ => (pg_name (i := 0) (show (["text", "place"] : List Str).Nodup by decide +kernel) rfl (Or.inl rfl))) (fun _ _ _ _ _ _ _ => (pe_ix ix_str (pv 0) (pv 1) (fun _ _ => rfl)))) pa_nil)))), ?_⟩
    refine ⟨rfl, _, rfl, c, _, rfl, hc _ (Same.refl _), fun l hl => ?_⟩
    refine cm_map rs.length (fun i => sg ((rs.getD i ⟨#[]⟩).cps.toList.getD n 0)) hl hz (fun i H2 s2 hi => ?_) (fun H2 s2 => ?_) (fun i x H2 H3 R s2 hi y hR => ?_) fun H2 s2 hl2 => ?_
    · exact ⟨_, _, hc _ s2, by rw [List.getElem?_map, List.getElem?_eq_getElem hi]; rfl⟩
    · exact ⟨_, hc _ s2, by rw [List.length_map]; exact Nat.le_refl _⟩
    · obtain ⟨rfl, y⟩ := y
      have e := y _ (hc _ s2)
      rw [List.getElem?_map, List.getElem?_eq_getElem hi] at e
      cases e
      have hm := List.getElem_mem hi
      have hn' : n < rs[i].cps.toList.length := by rw [Array.length_toList]; exact hn _ hm
      refine ⟨Kp.set0, ?_⟩
      refine ⟨_, rfl, _, rfl, _, _, rs[i].cps.toList[n], rfl, rfl, Nat.le_trans (hS.row _ hm) (by decide), atI_nat (List.getElem?_eq_getElem hn'), ?_⟩
      have e2 : rs[i].cps.toList[n] = (rs.getD i ⟨#[]⟩).cps.toList.getD n 0 := by
        have e3 : rs.getD i ⟨#[]⟩ = rs[i] := by rw [List.getD_eq_getElem?_getD, List.getElem?_eq_getElem hi, Option.getD_some]
        rw [e3, List.getD_eq_getElem?_getD, List.getElem?_eq_getElem hn', Option.getD_some]
      rw [e2]
      exact hR _ (Same.refl _)
    · refine ⟨l, colL rs n, rfl, rfl, ?_, ?_, k H2 s2⟩
      · have e : (List.range rs.length).map (fun i => sg ((rs.getD i ⟨#[]⟩).cps.toList.getD n 0)) = (colL rs n).map sg := by
          unfold colL
          rw [List.map_map]
          refine List.ext_getElem (by simp) fun i h1 h2 => ?_
          have hi : i < rs.length := by simpa using h1
          simp [List.getD_eq_getElem?_getD, List.getElem?_eq_getElem hi]
        rw [e] at hl2
        exact SqL.of hl2
      · unfold colL
        rw [List.length_map]
        exact Nat.le_trans hS.len (by decide)
theorem ok_turned {f_turned f_things_at : Addr} {fd_turned fd_things_at : FuncData} {p : Pm} (T : Txt K mg p) (D_turned : Dn K mg "turned" s_turned ["texts", "many"] f_turned fd_turned) (D_things_at : Dn K mg "things_at" s_things_at ["texts", "place"] f_things_at fd_things_at) (G_things_at : FnOk P w K mg base CX0 1 f_things_at fd_things_at ["texts", "place"] (spThingsAt K)) : FnOk P w K mg base CX0 2 f_turned fd_turned ["texts", "many"] (spTurned K) := by
  refine D_turned.fn.ok sc_turned (fun vs H Q E h => ?_) (fun cdv A outer s H vs Q E hr h => ?_)
  · obtain ⟨v, rs, n, rfl, _⟩ := h
    rfl
  · obtain ⟨v, rs, n, rfl, hR, hS, hn, hw, k⟩ := h
    refine ⟨_, (pss_one (ps_ret (pe_comp (N := ["place", "texts"]) rfl (CompSc.freeB (nt := 1) (ix := [0]) rfl (by decide +kernel) (by decide +kernel) (by kernel_rfl) rfl (by kernel_rfl)) (pi_range1 rfl T.z_range (pa_cons (pv 1) pa_nil)) (fun _ _ _ _ _ _ _ => (pg_name (i := 0) (show (["place", "texts"] : List Str).Nodup by decide +kernel) rfl (Or.inl rfl))) (fun _ _ _ _ _ _ _ => (pe_call G_things_at (hr.mono (by decide)) rfl D_things_at.m D_things_at.fn.kp D_things_at.b .nil pass0 (pa_cons (pv 1) (pa_cons (pv 0) pa_nil))))))), ?_⟩
    refine ⟨_, rfl, n, rfl, by omega, by omega, fun l hl => ?_⟩
    refine cm_map n (fun i => V.str (colS rs i)) hl (Nat.lt_of_le_of_lt hn (by decide)) (fun i H2 s2 hi => ?_) (fun H2 s2 => ?_) (fun i x H2 H3 R s2 hi y hR' => ?_) fun H2 s2 hl2 => ?_
    · show i < ((n : Nat) : Int).toNat
      omega
    · show ((n : Nat) : Int).toNat ≤ n
      omega
    · obtain ⟨rfl, rfl⟩ := y
      refine ⟨Kp.set0, ?_⟩
      refine ⟨_, rfl, _, rfl, v, rs, i, ?_, hR.same s2, hS, fun r hr => Nat.lt_of_lt_of_le hi (hw r hr), fun H5 s5 => hR' H5 s5⟩
      rw [Int.zero_add]; rfl
    · refine k l H2 s2 hl ?_
      rw [hl2]
      unfold cols
      rw [List.map_map]
      rfl
theorem ok_columns_of {f_columns_of f_turned : Addr} {fd_columns_of fd_turned : FuncData} {p : Pm} (T : Txt K mg p) (D_columns_of : Dn K mg "columns_of" s_columns_of ["rows"] f_columns_of fd_columns_of) (D_turned : Dn K mg "turned" s_turned ["texts", "many"] f_turned fd_turned) (G_turned : FnOk P w K mg base CX0 2 f_turned fd_turned ["texts", "many"] (spTurned K)) : FnOk P w K mg base CX0 3 f_columns_of fd_columns_of ["rows"] (spColumns K) := by
  refine D_columns_of.fn.ok sc_columns_of (fun vs H Q E h => ?_) (fun cdv A outer s H vs Q E hr h => ?_)
  · obtain ⟨v, rs, rfl, _⟩ := h
    rfl
  · obtain ⟨v, rs, rfl, hR, hS, hl, k⟩ := h
    obtain ⟨hne, hw⟩ := lenB_iff.mp hl
    refine ⟨_, (pss_one (ps_ret (pe_call G_turned (hr.mono (by decide)) rfl D_turned.m D_turned.fn.kp D_turned.b .nil pass0 (pa_cons (pv 0) (pa_cons (pe_callB (call_len) rfl T.z_len bo_len (pa_cons (pe_ix ix_seq (pv 0) pe_int (fun _ _ => rfl)) pa_nil)) pa_nil))))), ?_⟩
    cases rs with
    | nil => exact absurd rfl hne
    | cons r0 rs =>
      have h0 := hS.row r0 (List.mem_cons_self ..)
      refine ⟨_, rfl, _, rfl, hR.ix (i := 0) rfl ?_⟩
      refine ⟨_, _, rfl, ⟨Nat.le_trans h0 (by decide), rfl⟩, v, _, r0.cps.size, rfl, hR, hS, h0, fun r hr => by rw [hw r hr]; exact Nat.le_refl _, fun l H' s' hn hl' => k l H' s' hn hl'⟩
theorem ok_is_gaps {f_is_gaps : Addr} {fd_is_gaps : FuncData} {p : Pm} (T : Txt K mg p) (D_is_gaps : Dn K mg "is_gaps" s_is_gaps ["column"] f_is_gaps fd_is_gaps)  : FnOk P w K mg base CX0 1 f_is_gaps fd_is_gaps ["column"] spIsGaps := by
  refine D_is_gaps.fn.ok sc_is_gaps (fun vs H Q E h => ?_) (fun cdv A outer s H vs Q E hr h => ?_)
  · obtain ⟨x, rfl, _⟩ := h
    rfl
  · obtain ⟨x, rfl, hx, k⟩ := h
    refine ⟨_, (pss_one (ps_ret (pe_cmpR op_eq (pv 0) (pe_op op_repS (pe_glob (v := .str (Str.ofString "-")) rfl T.g_GAP ⟨_, rfl⟩) (pe_callB (call_len) rfl T.z_len bo_len (pa_cons (pv 0) pa_nil))) (nomark _)))), ?_⟩
    refine ⟨_, rfl, _, rfl, _, _, rfl, ⟨Nat.le_trans hx (by decide), rfl⟩, _, _, rfl, rfl, by show (-1000000 : Int) ≤ ((x.cps.size : Nat) : Int); omega, by show ((x.cps.size : Nat) : Int) ≤ 1000000; omega, by decide, ?_, rfl, ?_⟩
    · show ((x.cps.size : Nat) : Int).toNat * 1 ≤ sizeLine
      exact Nat.le_trans (show _ ≤ 1000 by omega) (by decide)
    · rw [gaps_eq]
      exact k
theorem ok_signs_of {f_signs_of : Addr} {fd_signs_of : FuncData} {p : Pm} (T : Txt K mg p) (D_signs_of : Dn K mg "signs_of" s_signs_of ["things"] f_signs_of fd_signs_of)  : FnOk P w K mg base CX0 1 f_signs_of fd_signs_of ["things"] spSignsOf := by
  refine D_signs_of.fn.ok sc_signs_of (fun vs H Q E h => ?_) (fun cdv A outer s H vs Q E hr h => ?_)
  · obtain ⟨x, rfl, _⟩ := h
    rfl
  · obtain ⟨x, rfl, hx, k⟩ := h
    refine ⟨_, (pss_one (ps_ret (pe_strike (pv 0) rfl T.g_GAP))), ?_⟩
    exact ⟨_, rfl, x, rfl, by omega, k⟩
theorem ok_are_things {f_are_things f_signs_of f_are_signs : Addr} {fd_are_things fd_signs_of fd_are_signs : FuncData} {p : Pm} (T : Txt K mg p) (D_are_things : Dn K mg "are_things" s_are_things ["row"] f_are_things fd_are_things) (D_signs_of : Dn K mg "signs_of" s_signs_of ["things"] f_signs_of fd_signs_of) (G_signs_of : FnOk P w K mg base CX0 1 f_signs_of fd_signs_of ["things"] spSignsOf) (D_are_signs : Dn K mg "are_signs" s_are_signs ["text"] f_are_signs fd_are_signs) (G_are_signs : FnOk P w K mg base CX0 2 f_are_signs fd_are_signs ["text"] spAreSigns) : FnOk P w K mg base CX0 3 f_are_things fd_are_things ["row"] spAreThings := by
  refine D_are_things.fn.ok sc_are_things (fun vs H Q E h => ?_) (fun cdv A outer s H vs Q E hr h => ?_)
  · obtain ⟨x, rfl, _⟩ := h
    rfl
  · obtain ⟨x, rfl, hx, k⟩ := h
    refine ⟨_, (pss_one (ps_ret (pe_call G_are_signs (hr.mono (by decide)) rfl D_are_signs.m D_are_signs.fn.kp D_are_signs.b .nil pass0 (pa_cons (pe_call G_signs_of (hr.mono (by decide)) rfl D_signs_of.m D_signs_of.fn.kp D_signs_of.b .nil pass0 (pa_cons (pv 0) pa_nil)) pa_nil)))), ?_⟩
    refine ⟨_, rfl, x, rfl, hx, _, rfl, ?_, k⟩
    show (x.cps.toList.filter (· != 45)).length ≤ 1000
    exact Nat.le_trans (List.length_filter_le _ _) (by rw [Array.length_toList]; exact hx)
end
section
variable {P : Program} {w : World} {K : PySem.W.Frag} {mg : Str → Option Value} {base : Heap}
theorem ok_check_lengths_blocks {f_check_lengths_blocks : Addr} {fd_check_lengths_blocks : FuncData} {p : Pm} (T : Txt K mg p) (D_check_lengths_blocks : Da K mg "check_lengths_blocks" "check_lengths" s_check_lengths_blocks ["rows"] f_check_lengths_blocks fd_check_lengths_blocks)  : FnOk P w K mg base (CXs P w) 1 f_check_lengths_blocks fd_check_lengths_blocks ["rows"] (spChk K p.C_NoBlock (fun _ => true) lenB) := by
  refine D_check_lengths_blocks.fn.okX sc_check_lengths_blocks (fun vs H Q E h => ?_) (fun cdv A outer s H vs Q E hr h => ?_)
  · obtain ⟨v, rs, rfl, _⟩ := h
    rfl
  · obtain ⟨v, rs, rfl, hR, hS, _, k, kX⟩ := h
    obtain ⟨c, rfl, hc⟩ := hR.cp
    refine ⟨_, (pss_cons (ps_if (pt_cmpR op_eq (pe_callB (call_len) rfl T.z_len bo_len (pa_cons (pv 0) pa_nil)) pe_int (nomark _)) (pss_one (ps_raise lets_fn T.xc_NoBlock rfl rfl T.mg_NoBlock (pa_cons pe_str pa_nil))) pss_nil)
      (pss_one (ps_for passesOwn_fn rfl (pi_cp (pv 0)) (pg_name (i := 1) sc_check_lengths_blocks.nd rfl (Or.inl rfl)) (pss_one (ps_if (pt_cmpR op_ne (pe_callB (call_len) rfl T.z_len bo_len (pa_cons (pv 1) pa_nil)) (pe_callB (call_len) rfl T.z_len bo_len (pa_cons (pe_ix ix_seq (pv 0) pe_int (fun _ _ => rfl)) pa_nil)) (nomark _)) (pss_one (ps_raise lets_fn T.xc_NoBlock rfl rfl T.mg_NoBlock (pa_cons pe_str pa_nil))) pss_nil))))), ?_⟩
    refine ⟨_, rfl, _, _, rfl, hR.len, rfl, _, rfl, ?_⟩
    cases rs with
    | nil => exact iteT ⟨by show 1 ≤ sizeLine; decide, kX rfl H (Same.refl _)⟩
    | cons r0 rs =>
      refine iteF ?_
      have h0 := hS.row r0 (List.mem_cons_self ..)
      refine ⟨_, rfl, c, _, rfl, hc _ (Same.refl _), for_cp (K := K) (xs := (r0 :: rs).map V.str) (fun i σ H2 => H2 = H ∧ ∃ v1, σ = [some c.val, v1] ∧ ∀ r ∈ (r0 :: rs).take i, r.cps.size = r0.cps.size) ⟨rfl, _, rfl, fun r hr => (by cases hr)⟩ (fun i σ H2 _ ⟨e, _⟩ => by rw [e]; exact hc _ (Same.refl _)) ?_ ?_⟩
      · rintro i x σ H2 hx ⟨rfl, v1, rfl, hw⟩
        rw [List.getElem?_map] at hx
        obtain ⟨r, hr, rfl⟩ := Option.map_eq_some_iff.mp hx
        have hm := List.mem_of_getElem? hr
        have h1 := hS.row r hm
        refine ⟨_, rfl, _, _, rfl, ⟨Nat.le_trans h1 (by decide), rfl⟩, _, rfl, hR.ix (i := 0) rfl ⟨_, _, rfl, ⟨Nat.le_trans h0 (by decide), rfl⟩, rfl, _, rfl, ?_⟩⟩
        by_cases z : r.cps.size = r0.cps.size
        · rw [decide_eq_true (show V.int ((r.length : Nat) : Int) = V.int ((r0.length : Nat) : Int) by show V.int ((r.cps.size : Nat) : Int) = _; rw [z]; rfl)]
          refine iteF ⟨rfl, _, rfl, fun r' hr' => ?_⟩
          rw [List.take_succ, hr] at hr'
          rcases List.mem_append.mp hr' with hr' | hr'
          · exact hw r' hr'
          · rw [List.mem_singleton.mp hr']; exact z
        · rw [decide_eq_false (fun e => z (by injection e with e; have e' : ((r.cps.size : Nat) : Int) = ((r0.cps.size : Nat) : Int) := e; omega))]
          refine iteT ⟨by show 1 ≤ sizeLine; decide, kX ?_ _ (Same.refl _)⟩
          rw [Bool.eq_false_iff]
          exact fun e => z ((lenB_iff.mp e).2 r hm)
      · rintro σ H2 ⟨rfl, v1, rfl, hw⟩
        rw [List.length_map, List.take_length] at hw
        exact k (lenB_iff.mpr ⟨by simp, hw⟩) _ (Same.refl _)
theorem ok_check_things {f_check_things f_are_things : Addr} {fd_check_things fd_are_things : FuncData} {p : Pm} (T : Txt K mg p) (D_check_things : Dn K mg "check_things" s_check_things ["rows"] f_check_things fd_check_things) (D_are_things : Dn K mg "are_things" s_are_things ["row"] f_are_things fd_are_things) (G_are_things : FnOk P w K mg base CX0 3 f_are_things fd_are_things ["row"] spAreThings) : FnOk P w K mg base (CXs P w) 4 f_check_things fd_check_things ["rows"] (spChk K p.C_NoBlock (fun _ => true) (fun rs => rs.all thingsB)) := by
  refine D_check_things.fn.okX sc_check_things (fun vs H Q E h => ?_) (fun cdv A outer s H vs Q E hr h => ?_)
  · obtain ⟨v, rs, rfl, _⟩ := h
    rfl
  · obtain ⟨v, rs, rfl, hR, hS, _, k, kX⟩ := h
    obtain ⟨c, rfl, hc⟩ := hR.cp
    refine ⟨_, (pss_one (ps_for passesOwn_fn rfl (pi_cp (pv 0)) (pg_name (i := 1) sc_check_things.nd rfl (Or.inl rfl)) (pss_one (ps_if (pt_not (pt_val (pe_call G_are_things (hr.mono (by decide)) rfl D_are_things.m D_are_things.fn.kp D_are_things.b .nil pass0 (pa_cons (pv 1) pa_nil)))) (pss_one (ps_raise lets_fn T.xc_NoBlock rfl rfl T.mg_NoBlock (pa_cons pe_str pa_nil))) pss_nil)))), ?_⟩
    refine ⟨_, rfl, c, _, rfl, hc _ (Same.refl _), for_cp (K := K) (xs := rs.map V.str) (fun i σ H2 => Same H H2 ∧ ∃ v1, σ = [some c.val, v1] ∧ ∀ r ∈ rs.take i, thingsB r = true) ⟨Same.refl _, _, rfl, fun r hr => (by cases hr)⟩ (fun i σ H2 _ ⟨e, _⟩ => hc _ e) ?_ ?_⟩
    · rintro i x σ H2 hx ⟨s2, v1, rfl, hw⟩
      rw [List.getElem?_map] at hx
      obtain ⟨r, hr, rfl⟩ := Option.map_eq_some_iff.mp hx
      have hm := List.mem_of_getElem? hr
      refine ⟨_, rfl, r, rfl, hS.row r hm, fun H3 s3 => ⟨_, rfl, ?_⟩⟩
      cases z : thingsB r with
      | true =>
        refine iteNT ⟨s2.trans s3, _, rfl, fun r' hr' => ?_⟩
        rw [List.take_succ, hr] at hr'
        rcases List.mem_append.mp hr' with hr' | hr'
        · exact hw r' hr'
        · rw [List.mem_singleton.mp hr']; exact z
      | false =>
        refine iteNF ⟨by show 1 ≤ sizeLine; decide, kX ?_ _ (s2.trans s3)⟩
        rw [Bool.eq_false_iff]
        exact fun e => by rw [List.all_eq_true] at e; rw [e r hm] at z; cases z
    · rintro σ H2 ⟨s2, v1, rfl, hw⟩
      rw [List.length_map, List.take_length] at hw
      exact k (List.all_eq_true.mpr hw) _ s2
theorem ok_check_columns {f_check_columns f_columns_of f_is_gaps : Addr} {fd_check_columns fd_columns_of fd_is_gaps : FuncData} {p : Pm} (T : Txt K mg p) (D_check_columns : Dn K mg "check_columns" s_check_columns ["rows"] f_check_columns fd_check_columns) (D_columns_of : Dn K mg "columns_of" s_columns_of ["rows"] f_columns_of fd_columns_of) (G_columns_of : FnOk P w K mg base CX0 3 f_columns_of fd_columns_of ["rows"] (spColumns K)) (D_is_gaps : Dn K mg "is_gaps" s_is_gaps ["column"] f_is_gaps fd_is_gaps) (G_is_gaps : FnOk P w K mg base CX0 1 f_is_gaps fd_is_gaps ["column"] spIsGaps) : FnOk P w K mg base (CXs P w) 4 f_check_columns fd_check_columns ["rows"] (spChk K p.C_NoBlock lenB colsB) := by
  refine D_check_columns.fn.okX sc_check_columns (fun vs H Q E h => ?_) (fun cdv A outer s H vs Q E hr h => ?_)
  · obtain ⟨v, rs, rfl, _⟩ := h
    rfl
  · obtain ⟨v, rs, rfl, hR, hS, hl, k, kX⟩ := h
    refine ⟨_, (pss_one (ps_for passesOwn_fn rfl (pi_list (pe_call G_columns_of (hr.mono (by decide)) rfl D_columns_of.m D_columns_of.fn.kp D_columns_of.b .nil pass0 (pa_cons (pv 0) pa_nil))) (pg_name (i := 1) sc_check_columns.nd rfl (Or.inl rfl)) (pss_one (ps_if (pt_val (pe_call G_is_gaps (hr.mono (by decide)) rfl D_is_gaps.m D_is_gaps.fn.kp D_is_gaps.b .nil pass0 (pa_cons (pv 1) pa_nil))) (pss_one (ps_raise lets_fn T.xc_NoBlock rfl rfl T.mg_NoBlock (pa_cons pe_str pa_nil))) pss_nil)))), ?_⟩
    refine ⟨_, rfl, v, rs, rfl, hR, hS, hl, fun l H1 s1 hn hl1 => ?_⟩
    refine ⟨l, rfl, ⟨_, SqL.of hl1⟩, for_list (K := K) (xs := (cols rs (wid rs)).map V.str) (fun i σ H2 => Same H1 H2 ∧ ∃ v1, σ = [some v, v1] ∧ ∀ r ∈ (cols rs (wid rs)).take i, (!gapsB r) = true) ⟨Same.refl _, _, rfl, fun r hr => (by cases hr)⟩ (fun i σ H2 _ ⟨e, _⟩ => SqL.of (e _ _ hl1)) ?_ ?_⟩
    · rintro i x σ H2 hx ⟨s2, v1, rfl, hw⟩
      rw [List.getElem?_map] at hx
      obtain ⟨r, hr, rfl⟩ := Option.map_eq_some_iff.mp hx
      have hm := List.mem_of_getElem? hr
      have hr1 : r.cps.size ≤ 1000 := by
        unfold cols at hm
        obtain ⟨j, _, rfl⟩ := List.mem_map.mp hm
        show (colL rs j).length ≤ 1000
        unfold colL
        rw [List.length_map]
        exact Nat.le_trans hS.len (by decide)
      refine ⟨_, rfl, r, rfl, hr1, _, rfl, ?_⟩
      cases z : gapsB r with
      | true =>
        refine iteT ⟨by show 1 ≤ sizeLine; decide, kX ?_ _ (s1.trans s2)⟩
        rw [Bool.eq_false_iff]
        exact fun e => by
          unfold colsB at e
          rw [List.all_eq_true] at e
          have := e r hm
          rw [z] at this
          cases this
      | false =>
        refine iteF ⟨s2, _, rfl, fun r' hr' => ?_⟩
        rw [List.take_succ, hr] at hr'
        rcases List.mem_append.mp hr' with hr' | hr'
        · exact hw r' hr'
        · rw [List.mem_singleton.mp hr', z]; rfl
    · rintro σ H2 ⟨s2, v1, rfl, hw⟩
      rw [List.length_map, List.take_length] at hw
      exact k (List.all_eq_true.mpr hw) _ (s1.trans s2)
end
section
variable {P : Program} {w : World} {K : PySem.W.Frag} {mg : Str → Option Value} {base : Heap}
end
section
variable {P : Program} {w : World} {K : PySem.W.Frag} {mg : Str → Option Value} {base : Heap}
end
section
variable {P : Program} {w : World} {K : PySem.W.Frag} {mg : Str → Option Value} {base : Heap}
theorem ok_NoSign___init__ {f_NoSign___init__ : Addr} {fd_NoSign___init__ : FuncData} {p : Pm} (T : Txt K mg p) (D_NoSign___init__ : Dm K "__init__" "NoSign.__init__" s_NoSign___init__ ["self", "row", "place"] f_NoSign___init__ fd_NoSign___init__)  : FnOk P w K mg base (CXs P w) 1 f_NoSign___init__ fd_NoSign___init__ ["self", "row", "place"] (spNoSign p.C_NoSign) := by
  refine D_NoSign___init__.fn.okX sc_NoSign___init__ (fun vs H Q E h => ?_) (fun cdv A outer s H vs Q E hr h => ?_)
  · obtain ⟨e, i, j, rfl, _⟩ := h
    rfl
  · obtain ⟨e, i, j, rfl, he, hi, hj, k⟩ := h
    obtain ⟨fI, xc⟩ := T.xk_NoSign
    refine ⟨_, (pss_cons (ps_expr (pe_base T.xw_WeaveError rfl T.mg_WeaveError (pa_cons (pv 0) (pa_cons (pe_join (pj_cons pe_str (pj_cons (pe_fmt (pv 1)) (pj_cons pe_str (pj_cons (pe_fmt (pv 2)) pj_nil))))) pa_nil))))
      (pss_cons (ps_fldX (pv 0) (pv 1) rfl)
      (pss_one (ps_fldX (pv 0) (pv 2) rfl)))), ?_⟩
    have li := log_small hi
    have lj := log_small hj
    have ti := PyProof.Rows.int_text_len_1921 li
    have tj := PyProof.Rows.int_text_len_1921 lj
    have l0 : (Str.empty ++ Str.ofString "no sign that may stand there: row ").length ≤ 50 := by decide
    have l1 := fit_app l0 ti
    have l2 := fit_app l1 (show (Str.ofString ", place ").length ≤ 20 by decide)
    have l3 := fit_app l2 tj
    refine ⟨_, rfl, _, rfl, Nat.le_trans l0 (by decide), _, rfl, _, rfl, li, _, rfl, Nat.le_trans l1 (by decide), _, rfl, Nat.le_trans l2 (by decide), _, rfl, _, rfl, lj, _, rfl, Nat.le_trans l3 (by decide), Nat.le_trans l3 (by decide), ?_⟩
    refine ⟨e, p.C_NoSign, fI, none, _, rfl, he, xc, ?_⟩
    refine ⟨_, rfl, _, rfl, e, p.C_NoSign, rfl, T.xs_NoSign, T.n_NoSign_row, .inl ⟨he, fun dx hdx => ?_⟩⟩
    have ne : dx ≠ e := fun z => by rw [z, he] at hdx; cases hdx
    refine ⟨_, rfl, _, rfl, e, p.C_NoSign, rfl, T.xs_NoSign, T.n_NoSign_place, .inr ⟨dx, _, by rw [upd_ne (Ne.symm ne), upd_same], upd_same, pl1, ?_⟩⟩
    refine k dx _ (fun b u hb hbe => ?_) hdx (by rw [upd_ne (Ne.symm ne), upd_ne (Ne.symm ne), upd_same]) upd_same
    have nb : b ≠ dx := fun z => by rw [z, hdx] at hb; cases hb
    rw [upd_ne nb, upd_ne nb, upd_ne hbe, upd_ne nb]
    exact hb
theorem ok_Block___init__ {f_Block___init__ f_check_lengths_blocks f_check_things f_check_columns : Addr} {fd_Block___init__ fd_check_lengths_blocks fd_check_things fd_check_columns : FuncData} {p : Pm} (T : Txt K mg p) (D_Block___init__ : Dm K "__init__" "Block.__init__" s_Block___init__ ["self", "rows"] f_Block___init__ fd_Block___init__) (D_check_lengths_blocks : Da K mg "check_lengths_blocks" "check_lengths" s_check_lengths_blocks ["rows"] f_check_lengths_blocks fd_check_lengths_blocks) (G_check_lengths_blocks : FnOk P w K mg base (CXs P w) 1 f_check_lengths_blocks fd_check_lengths_blocks ["rows"] (spChk K p.C_NoBlock (fun _ => true) lenB)) (D_check_things : Dn K mg "check_things" s_check_things ["rows"] f_check_things fd_check_things) (G_check_things : FnOk P w K mg base (CXs P w) 4 f_check_things fd_check_things ["rows"] (spChk K p.C_NoBlock (fun _ => true) (fun rs => rs.all thingsB))) (D_check_columns : Dn K mg "check_columns" s_check_columns ["rows"] f_check_columns fd_check_columns) (G_check_columns : FnOk P w K mg base (CXs P w) 4 f_check_columns fd_check_columns ["rows"] (spChk K p.C_NoBlock lenB colsB)) : FnOk P w K mg base (CXs P w) 5 f_Block___init__ fd_Block___init__ ["self", "rows"] (spBlock K p.C_Block p.C_NoBlock) := by
  refine D_Block___init__.fn.okX sc_Block___init__ (fun vs H Q E h => ?_) (fun cdv A outer s H vs Q E hr h => ?_)
  · obtain ⟨b, dx, v, rs, rfl, _⟩ := h
    rfl
  · obtain ⟨b, dx, v, rs, rfl, hb, hR, hS, k, kX⟩ := h
    refine ⟨_, (pss_cons (ps_expr (pe_call G_check_lengths_blocks (hr.mono (by decide)) rfl D_check_lengths_blocks.m D_check_lengths_blocks.fn.kp D_check_lengths_blocks.b .nil (Lets.passes lets_fn) (pa_cons (pv 1) pa_nil)))
      (pss_cons (ps_expr (pe_call G_check_things (hr.mono (by decide)) rfl D_check_things.m D_check_things.fn.kp D_check_things.b .nil (Lets.passes lets_fn) (pa_cons (pv 1) pa_nil)))
      (pss_cons (ps_expr (pe_call G_check_columns (hr.mono (by decide)) rfl D_check_columns.m D_check_columns.fn.kp D_check_columns.b .nil (Lets.passes lets_fn) (pa_cons (pv 1) pa_nil)))
      (pss_one (ps_fld (pv 0) (pe_callTy (call_tuple_of) rfl T.z_tuple bo_tuple (pa_cons (pv 1) pa_nil)) rfl))))), ?_⟩
    refine ⟨_, rfl, v, rs, rfl, hR, hS, rfl, fun e1 H1 s1 => ?_, fun e1 H1 s1 => kX (by unfold blockB; rw [e1]; rfl) H1 s1⟩
    refine ⟨_, rfl, v, rs, rfl, hR.same s1, hS, rfl, fun e2 H2 s2 => ?_, fun e2 H2 s2 => kX (by have e2' : rs.all thingsB = false := e2; unfold blockB; rw [e2', Bool.false_and, Bool.and_false]) H2 (s1.trans s2)⟩
    refine ⟨_, rfl, v, rs, rfl, (hR.same s1).same s2, hS, e1, fun e3 H3 s3 => ?_, fun e3 H3 s3 => kX (by unfold blockB; rw [e3, Bool.and_false, Bool.and_false]) H3 ((s1.trans s2).trans s3)⟩
    have s03 := (s1.trans s2).trans s3
    have hb3 := s03 _ _ hb
    have hall : blockB rs = true := by have e2' : rs.all thingsB = true := e2; unfold blockB; rw [e1, e2', e3]; rfl
    obtain ⟨a, rfl, hq⟩ := hR.same s03
    refine ⟨_, rfl, a, rs.map V.str, rfl, ?_⟩
    rcases hq with hq | hq
    · refine .inl ⟨hq, fun q hqn => ⟨_, rfl, b, _, dx, [], rfl, ?_, T.cl_Block, T.n_Block_rows, by show 0 < 1000; decide, ?_⟩⟩
      · exact Same.upd hqn _ _ hb3
      · have nb : q ≠ b := fun z => by rw [z, hb3] at hqn; cases hqn
        refine k hall _ (fun a' u h1 h2 => ?_) ⟨dx, q, upd_same, .inl (.inl (by rw [upd_ne nb, upd_same]))⟩
        rw [upd_ne h2]
        exact Same.upd hqn _ _ (s03 _ _ h1)
    · refine .inr ⟨hq, _, rfl, b, _, dx, _, rfl, hb3, T.cl_Block, T.n_Block_rows, by show 0 < 1000; decide, ?_⟩
      refine k hall _ (fun a' u h1 h2 => ?_) ⟨dx, a, upd_same, SqT.offI hb3 hq⟩
      rw [upd_ne h2]
      exact s03 _ _ h1
theorem ok_law_with {f_law_with : Addr} {fd_law_with : FuncData} {p : Pm} (T : Txt K mg p) (D_law_with : Dn K mg "_law_with" s_law_with ["_law_row", "_law_k", "_law_thing_here"] f_law_with fd_law_with)  : FnOk P w K mg base CX0 1 f_law_with fd_law_with ["_law_row", "_law_k", "_law_thing_here"] spWith := by
  refine D_law_with.fn.ok sc_law_with (fun vs H Q E h => ?_) (fun cdv A outer s H vs Q E hr h => ?_)
  · obtain ⟨r, z, k, rfl, _⟩ := h
    rfl
  · obtain ⟨r, z, k, rfl, hk, hr, hz, kk⟩ := h
    have hz2 : r.length ≤ sizeLine := Nat.le_trans hr (by decide)
    have e1 := slice_lo (x := r) (k := (k : Int)) (by omega) (by omega)
    have e2 := slice_hi (x := r) (k := (k : Int) + 1) (by omega) (by omega)
    rw [show ((k : Int) + 1).toNat = k + 1 by omega] at e2
    rw [Int.toNat_natCast] at e1
    have l1 : (Txt.slice r none (some (k : Int))).cps.size ≤ 1000 := by rw [← Array.length_toList, e1, List.length_take, Array.length_toList]; omega
    have l2 : (Txt.slice r (some ((k : Int) + 1)) none).cps.size ≤ 1000 := by rw [← Array.length_toList, e2, List.length_drop, Array.length_toList]; omega
    refine ⟨_, (pss_one (ps_ret (pe_op op_add_str (pe_op op_add_str (pe_slice sl_str (pv 0) po_none (po_some (pv 1))) (pv 2)) (pe_slice sl_str (pv 0) (po_some (pe_op op_add (pv 1) pe_int)) po_none)))), ?_⟩
    refine ⟨_, rfl, _, rfl, _, rfl, r, rfl, hz2, _, rfl, _, _, rfl, rfl, Nat.le_trans (show _ ≤ 2000 from Nat.add_le_add l1 (show z.cps.size ≤ 1000 by omega)) (by decide), ?_⟩
    refine ⟨_, rfl, _, rfl, _, _, rfl, rfl, _, rfl, r, rfl, hz2, _, _, rfl, rfl, ?_, kk _ ?_⟩
    · show (Txt.slice r none (some (k : Int)) ++ z).cps.size + (Txt.slice r (some ((k : Int) + 1)) none).cps.size ≤ sizeLine
      rw [strAppSize]
      exact Nat.le_trans (show _ ≤ 3000 by omega) (by decide)
    · rw [strApp, strApp, e1, e2]
theorem ok_check_known {f_check_known f_NoSign___init__ : Addr} {fd_check_known fd_NoSign___init__ : FuncData} {p : Pm} (T : Txt K mg p) (D_check_known : Dn K mg "check_known" s_check_known ["known", "rows"] f_check_known fd_check_known) (D_NoSign___init__ : Dm K "__init__" "NoSign.__init__" s_NoSign___init__ ["self", "row", "place"] f_NoSign___init__ fd_NoSign___init__) (M_NoSign : XMk K p.C_NoSign f_NoSign___init__) (G_NoSign___init__ : FnOk P w K mg base (CXs P w) 1 f_NoSign___init__ fd_NoSign___init__ ["self", "row", "place"] (spNoSign p.C_NoSign)) : FnOk P w K mg base (CXs P w) 3 f_check_known fd_check_known ["known", "rows"] (spKnownR K p.C_NoSign) := by
  refine D_check_known.fn.okX sc_check_known (fun vs H Q E h => ?_) (fun cdv A outer s H vs Q E hr h => ?_)
  · obtain ⟨sg, v, rs, rfl, _⟩ := h
    rfl
  · obtain ⟨sg, v, rs, rfl, hR, hS, kq, k⟩ := h
    obtain ⟨c0, rfl, hc⟩ := hR.cp
    refine ⟨_, (pss_one (ps_for passesOwn_fn rfl (pi_enum rfl T.z_enumerate (pa_cons (pv 1) pa_nil)) (pg_tup (n := 2) rfl (pgs_cons (pg_name (i := 2) sc_check_known.nd rfl (Or.inl rfl)) (pgs_cons (pg_name (i := 3) sc_check_known.nd rfl (Or.inl rfl)) pgs_nil))) (pss_one (ps_for passesOwn_fn rfl (pi_enum rfl T.z_enumerate (pa_cons (pv 3) pa_nil)) (pg_tup (n := 2) rfl (pgs_cons (pg_name (i := 4) sc_check_known.nd rfl (Or.inl rfl)) (pgs_cons (pg_name (i := 5) sc_check_known.nd rfl (Or.inl rfl)) pgs_nil))) (pss_one (ps_if (pt_cmpR op_notIn_str (pv 5) (pv 0) (by with_unfolding_all rfl)) (pss_one (ps_raiseI lets_fn M_NoSign G_NoSign___init__ (hr.mono (by decide)) D_NoSign___init__.b rfl rfl T.mg_NoSign (pa_cons (pv 2) (pa_cons (pv 4) pa_nil)))) pss_nil)))))), ?_⟩
    refine ⟨_, rfl, c0, _, rfl, hc _ (Same.refl _), for_enum (K := K) (c := c0) (xs := rs.map V.str) (fun i σ H2 => ∃ v2 v3 v4 v5, σ = [some (.str sg), some c0.val, v2, v3, v4, v5] ∧ Same H H2 ∧ ∀ m r, m < i → rs[m]? = some r → Of sg r) ⟨_, _, _, _, rfl, Same.refl _, fun m r z => absurd z (Nat.not_lt_zero _)⟩ (fun i σ H2 _ ⟨_, _, _, _, _, s2, _⟩ => hc _ s2) ?_ ?_⟩
    · rintro i y p1 σ H2 hy hp1 ⟨v2, v3, v4, v5, rfl, s2, hb4⟩
      obtain ⟨z, hzr, rfl⟩ := map_at hy
      have hz := hS.row z (List.mem_of_getElem? hzr)
      have hi : i < rs.length := (List.getElem?_eq_some_iff.mp hzr).1
      have hl := hS.len
      refine ⟨p1, _, rfl, SqT.of upd_same, rfl, _, _, rfl, _, _, rfl, rfl, ?_⟩
      refine ⟨_, rfl, .txt z, _, rfl, rfl, for_enum (K := K) (c := .txt z) (xs := signsV z) (fun j σ H3 => ∃ v4 v5, σ = [some (.str sg), some c0.val, some (.int (i : Int)), some (.str z), v4, v5] ∧ Same H H3 ∧ ∀ k c, k < j → z.cps[k]? = some c → c ∈ sg.cps.toList) ⟨_, _, rfl, s2.trans (Same.upd hp1), fun k c z => absurd z (Nat.not_lt_zero _)⟩ (fun j σ H3 _ _ => rfl) ?_ ?_⟩
      · rintro j y p2 σ H3 hy hp2 ⟨v4, v5, rfl, s3, hp⟩
        obtain ⟨c, hc, rfl⟩ := signs_get hy
        have hj := cps_lt hc
        have s4 := s3.trans (Same.upd (o := .tup [.int (j : Int), .str ⟨#[c]⟩]) hp2)
        refine ⟨p2, _, rfl, SqT.of upd_same, rfl, _, _, rfl, _, _, rfl, rfl, ?_⟩
        refine ⟨_, rfl, _, rfl, _, _, rfl, rfl, _, rfl, ?_⟩
        rw [StrLaws.found_one]
        by_cases hm : c ∈ sg.cps.toList
        · rw [decide_eq_true hm]
          refine iteNT ⟨_, _, rfl, s4, fun k d hk hd => ?_⟩
          by_cases z : k = j
          · subst z
            rw [hc] at hd
            cases hd
            exact hm
          · exact hp k d (by omega) hd
        · rw [decide_eq_false hm]
          refine iteNF ⟨_, rfl, _, rfl, by show 2 ≤ sizeLine; decide, fun e hn => ?_⟩
          have hne : H e = none := Same.free s4 hn
          refine ⟨e, i, j, rfl, upd_same, by omega, by omega, fun dx H' hk hdx hx hd => ⟨rfl, some dx, hx, k i j ⟨⟨z, c, hzr, hc, hm, hp⟩, hb4⟩ dx _ (fun b u hb => ?_) ?_⟩⟩
          · have nb : b ≠ e := fun z => by rw [z, hne] at hb; cases hb
            rw [del_ne nb]
            exact hk b u (by rw [upd_ne nb]; exact s4 b u hb) nb
          · have ne : dx ≠ e := fun z => by rw [z, upd_same] at hdx; cases hdx
            rw [del_ne ne]
            exact hd
      · rintro σ H3 ⟨v4, v5, rfl, s3, hp⟩
        have oz : Of sg z := fun c hc => by
          obtain ⟨k, hk, e⟩ := List.getElem_of_mem hc
          have hk' : k < z.cps.size := by simpa using hk
          exact hp k c (by rw [signs_length]; exact hk') (by rw [← Array.getElem?_toList, List.getElem?_eq_getElem hk, e])
        refine ⟨_, _, _, _, rfl, s3, fun m r hm hr => ?_⟩
        by_cases z : m = i
        · subst z
          rw [hzr] at hr
          cases hr
          exact oz
        · exact hb4 m r (by omega) hr
    · rintro σ H2 ⟨v2, v3, v4, v5, rfl, s2, hb4⟩
      refine kq (fun r hr => ?_) H2 s2
      obtain ⟨m, hm, e⟩ := List.getElem_of_mem hr
      exact hb4 m r (by rw [List.length_map]; exact hm) (by rw [List.getElem?_eq_getElem hm, e])
theorem ok_check_block_rows {f_check_block_rows f_check_known : Addr} {fd_check_block_rows fd_check_known : FuncData} {p : Pm} (T : Txt K mg p) (D_check_block_rows : Dn K mg "check_block_rows" s_check_block_rows ["prices", "rows"] f_check_block_rows fd_check_block_rows) (D_check_known : Dn K mg "check_known" s_check_known ["known", "rows"] f_check_known fd_check_known) (G_check_known : FnOk P w K mg base (CXs P w) 3 f_check_known fd_check_known ["known", "rows"] (spKnownR K p.C_NoSign)) : FnOk P w K mg base (CXs P w) 4 f_check_block_rows fd_check_block_rows ["prices", "rows"] (spBlockRows K p.C_Prices p.C_NoSign) := by
  refine D_check_block_rows.fn.okX sc_check_block_rows (fun vs H Q E h => ?_) (fun cdv A outer s H vs Q E hr h => ?_)
  · obtain ⟨x, sg, rows, fo, fm, v, rs, rfl, _⟩ := h
    rfl
  · obtain ⟨x, sg, rows, fo, fm, v, rs, rfl, ⟨sig, _, _, _, _, _, _, dx, Pp, o, m, d, kvs, h1, h2, h3, h4, h5, h6⟩, hR, hS, kq, k⟩ := h
    refine ⟨_, (pss_one (ps_expr (pe_call G_check_known (hr.mono (by decide)) rfl D_check_known.m D_check_known.fn.kp D_check_known.b .nil (Lets.passes lets_fn) (pa_cons (pe_op op_add_str (pe_fld (pv 0) rfl) (pe_glob (v := .str (Str.ofString "-")) rfl T.g_GAP ⟨_, rfl⟩)) (pa_cons (pv 1) pa_nil))))), ?_⟩
    have hz : sg.cps.size + 1 ≤ sizeLine := Nat.le_trans (Nat.add_le_add_right sig.2.1 1) (by decide)
    exact ⟨_, rfl, x, _, _, _, _, rfl, h1, T.cl_Prices, T.n_Prices_signs, flds_signs, _, _, rfl, rfl, hz, _, rfl, knS sg, v, rs, rfl, hR, hS, kq, k⟩
end
section
variable {P : Program} {w : World} {K : PySem.W.Frag} {mg : Str → Option Value} {base : Heap}
theorem ok_thing_cost {f_thing_cost f_more_cost f_pair_cost : Addr} {fd_thing_cost fd_more_cost fd_pair_cost : FuncData} {p : Pm} (T : Txt K mg p) (D_thing_cost : Dn K mg "thing_cost" s_thing_cost ["prices", "one", "other"] f_thing_cost fd_thing_cost) (D_more_cost : Dn K mg "more_cost" s_more_cost ["prices"] f_more_cost fd_more_cost) (G_more_cost : FnOk P w K mg base CX0 2 f_more_cost fd_more_cost ["prices"] (spMore K p.C_Prices)) (D_pair_cost : Dn K mg "pair_cost" s_pair_cost ["prices", "one", "other"] f_pair_cost fd_pair_cost) (G_pair_cost : FnOk P w K mg base CX0 1 f_pair_cost fd_pair_cost ["prices", "one", "other"] (spPairCost K p.C_Prices)) : FnOk P w K mg base CX0 3 f_thing_cost fd_thing_cost ["prices", "one", "other"] (spThing K p.C_Prices) := by
  refine D_thing_cost.fn.ok sc_thing_cost (fun vs H Q E h => ?_) (fun cdv A outer s H vs Q E hr h => ?_)
  · obtain ⟨x, sg, rows, fo, fm, a, b, rfl, _⟩ := h
    rfl
  · obtain ⟨x, sg, rows, fo, fm, a, b, rfl, hP, ha, hb, k⟩ := h
    refine ⟨_, (pss_cons (ps_if (PW.pt (pw_and (pt_cmpR op_eq (pv 1) (pe_glob (v := .str (Str.ofString "-")) rfl T.g_GAP ⟨_, rfl⟩) (nomark _)) (pw_and1 (pt_cmpR op_eq (pv 2) (pe_glob (v := .str (Str.ofString "-")) rfl T.g_GAP ⟨_, rfl⟩) (nomark _))))) (pss_one (ps_ret pe_int)) pss_nil)
      (pss_cons (ps_if (PW.pt (pw_or (pt_cmpR op_eq (pv 1) (pe_glob (v := .str (Str.ofString "-")) rfl T.g_GAP ⟨_, rfl⟩) (nomark _)) (pw_or1 (pt_cmpR op_eq (pv 2) (pe_glob (v := .str (Str.ofString "-")) rfl T.g_GAP ⟨_, rfl⟩) (nomark _))))) (pss_one (ps_ret (pe_call G_more_cost (hr.mono (by decide)) rfl D_more_cost.m D_more_cost.fn.kp D_more_cost.b .nil pass0 (pa_cons (pv 0) pa_nil)))) pss_nil)
      (pss_one (ps_ret (pe_call G_pair_cost (hr.mono (by decide)) rfl D_pair_cost.m D_pair_cost.fn.kp D_pair_cost.b .nil pass0 (pa_cons (pv 0) (pa_cons (pv 1) (pa_cons (pv 2) pa_nil)))))))), ?_⟩
    refine ⟨_, rfl, rfl, _, rfl, ?_⟩
    rw [gapD]
    by_cases ea : a = 45
    · rw [decide_eq_true ea]
      refine iteT ⟨_, rfl, rfl, _, rfl, ?_⟩
      rw [gapD]
      by_cases eb : b = 45
      · rw [decide_eq_true eb]
        refine iteT ?_
        have z := k H (Same.refl _)
        rw [tcF_gg ea eb] at z
        exact z
      · rw [decide_eq_false eb]
        refine iteF ⟨_, rfl, rfl, _, rfl, ?_⟩
        rw [gapD, decide_eq_true ea]
        refine iteT ⟨_, rfl, x, sg, rows, fo, fm, rfl, hP, ?_⟩
        have z := k H (Same.refl _)
        rw [tcF_g (fun q => eb q.2) (.inl ea)] at z
        exact z
    · rw [decide_eq_false ea]
      refine iteF (iteF ⟨_, rfl, rfl, _, rfl, ?_⟩)
      rw [gapD, decide_eq_false ea]
      refine iteF ⟨_, rfl, rfl, _, rfl, ?_⟩
      rw [gapD]
      by_cases eb : b = 45
      · rw [decide_eq_true eb]
        refine iteT ⟨_, rfl, x, sg, rows, fo, fm, rfl, hP, ?_⟩
        have z := k H (Same.refl _)
        rw [tcF_g (fun q => ea q.1) (.inr eb)] at z
        exact z
      · rw [decide_eq_false eb]
        obtain ⟨i, j, f, k1, k2, k3, k4⟩ := pcF_at (u := unitOf fo.2 fm.2 rows) hP.sqr ((knS_mem.mp ha).resolve_left ea) ((knS_mem.mp hb).resolve_left eb)
        refine iteF ⟨_, rfl, _, rfl, _, rfl, x, sg, rows, fo, fm, i, j, a, b, f, rfl, hP, k1, k2, k3, fun H' s' => ?_⟩
        have z := k H' s'
        rw [tcF_p ea eb, k4] at z
        exact z
theorem ok_law_thing {f_law_thing f_more_cost f_pair_cost : Addr} {fd_law_thing fd_more_cost fd_pair_cost : FuncData} {p : Pm} (T : Txt K mg p) (D_law_thing : Dn K mg "_law_thing" s_law_thing ["_law_prices_here", "_law_one", "_law_other"] f_law_thing fd_law_thing) (D_more_cost : Dn K mg "more_cost" s_more_cost ["prices"] f_more_cost fd_more_cost) (G_more_cost : FnOk P w K mg base CX0 2 f_more_cost fd_more_cost ["prices"] (spMore K p.C_Prices)) (D_pair_cost : Dn K mg "pair_cost" s_pair_cost ["prices", "one", "other"] f_pair_cost fd_pair_cost) (G_pair_cost : FnOk P w K mg base CX0 1 f_pair_cost fd_pair_cost ["prices", "one", "other"] (spPairCost K p.C_Prices)) : FnOk P w K mg base CX0 3 f_law_thing fd_law_thing ["_law_prices_here", "_law_one", "_law_other"] (spThing K p.C_Prices) := by
  refine D_law_thing.fn.ok sc_law_thing (fun vs H Q E h => ?_) (fun cdv A outer s H vs Q E hr h => ?_)
  · obtain ⟨x, sg, rows, fo, fm, a, b, rfl, _⟩ := h
    rfl
  · obtain ⟨x, sg, rows, fo, fm, a, b, rfl, hP, ha, hb, k⟩ := h
    refine ⟨_, (pss_cons (ps_if (PW.pt (pw_and (pt_cmpR op_eq (pv 1) pe_str (nomark _)) (pw_and1 (pt_cmpR op_eq (pv 2) pe_str (nomark _))))) (pss_one (ps_ret pe_int)) pss_nil)
      (pss_cons (ps_if (PW.pt (pw_or (pt_cmpR op_eq (pv 1) pe_str (nomark _)) (pw_or1 (pt_cmpR op_eq (pv 2) pe_str (nomark _))))) (pss_one (ps_ret (pe_call G_more_cost (hr.mono (by decide)) rfl D_more_cost.m D_more_cost.fn.kp D_more_cost.b .nil pass0 (pa_cons (pv 0) pa_nil)))) pss_nil)
      (pss_one (ps_ret (pe_call G_pair_cost (hr.mono (by decide)) rfl D_pair_cost.m D_pair_cost.fn.kp D_pair_cost.b .nil pass0 (pa_cons (pv 0) (pa_cons (pv 1) (pa_cons (pv 2) pa_nil)))))))), ?_⟩
    refine ⟨_, rfl, rfl, _, rfl, ?_⟩
    rw [gapD]
    by_cases ea : a = 45
    · rw [decide_eq_true ea]
      refine iteT ⟨_, rfl, rfl, _, rfl, ?_⟩
      rw [gapD]
      by_cases eb : b = 45
      · rw [decide_eq_true eb]
        refine iteT ?_
        have z := k H (Same.refl _)
        rw [tcF_gg ea eb] at z
        exact z
      · rw [decide_eq_false eb]
        refine iteF ⟨_, rfl, rfl, _, rfl, ?_⟩
        rw [gapD, decide_eq_true ea]
        refine iteT ⟨_, rfl, x, sg, rows, fo, fm, rfl, hP, ?_⟩
        have z := k H (Same.refl _)
        rw [tcF_g (fun q => eb q.2) (.inl ea)] at z
        exact z
    · rw [decide_eq_false ea]
      refine iteF (iteF ⟨_, rfl, rfl, _, rfl, ?_⟩)
      rw [gapD, decide_eq_false ea]
      refine iteF ⟨_, rfl, rfl, _, rfl, ?_⟩
      rw [gapD]
      by_cases eb : b = 45
      · rw [decide_eq_true eb]
        refine iteT ⟨_, rfl, x, sg, rows, fo, fm, rfl, hP, ?_⟩
        have z := k H (Same.refl _)
        rw [tcF_g (fun q => ea q.1) (.inr eb)] at z
        exact z
      · rw [decide_eq_false eb]
        obtain ⟨i, j, f, k1, k2, k3, k4⟩ := pcF_at (u := unitOf fo.2 fm.2 rows) hP.sqr ((knS_mem.mp ha).resolve_left ea) ((knS_mem.mp hb).resolve_left eb)
        refine iteF ⟨_, rfl, _, rfl, _, rfl, x, sg, rows, fo, fm, i, j, a, b, f, rfl, hP, k1, k2, k3, fun H' s' => ?_⟩
        have z := k H' s'
        rw [tcF_p ea eb, k4] at z
        exact z
theorem ok_column_cost {f_column_cost f_thing_cost : Addr} {fd_column_cost fd_thing_cost : FuncData} {p : Pm} (T : Txt K mg p) (D_column_cost : Dn K mg "column_cost" s_column_cost ["prices", "column"] f_column_cost fd_column_cost) (D_thing_cost : Dn K mg "thing_cost" s_thing_cost ["prices", "one", "other"] f_thing_cost fd_thing_cost) (G_thing_cost : FnOk P w K mg base CX0 3 f_thing_cost fd_thing_cost ["prices", "one", "other"] (spThing K p.C_Prices)) : FnOk P w K mg base CX0 4 f_column_cost fd_column_cost ["prices", "column"] (spColCost K p.C_Prices) := by
  refine D_column_cost.fn.ok sc_column_cost (fun vs H Q E h => ?_) (fun cdv A outer s H vs Q E hr h => ?_)
  · obtain ⟨x, sg, rows, fo, fm, c, rfl, _⟩ := h
    rfl
  · obtain ⟨x, sg, rows, fo, fm, c, rfl, hP, hO, hc, k⟩ := h
    have hz : c.length ≤ sizeLine := Nat.le_trans hc (by decide)
    refine ⟨_, (pss_cons (ps_set (i := 2) sc_column_cost.nd rfl (Or.inl rfl) pe_int)
      (pss_cons (ps_for PassesOwn.never rfl (pi_enum rfl T.z_enumerate (pa_cons (pv 1) pa_nil)) (pg_tup (n := 2) rfl (pgs_cons (pg_name (i := 3) sc_column_cost.nd rfl (Or.inl rfl)) (pgs_cons (pg_name (i := 4) sc_column_cost.nd rfl (Or.inr rfl)) pgs_nil))) (pss_one (ps_set (i := 2) sc_column_cost.nd rfl (Or.inl rfl) (pe_op op_add (pv 2) (pe_callB (call_sumK (K' := K) rfl rfl) rfl T.z_sum bo_sum (pa_cons (pe_comp (N := ["one", "prices", "other"]) rfl (CompSc.freeB (nt := 1) (ix := [0, 4]) rfl (by decide +kernel) (by decide +kernel) (by kernel_rfl) rfl (by kernel_rfl)) (pi_txt (pe_slice sl_str (pv 1) po_none (po_some (pv 3)))) (fun _ _ _ _ _ _ _ => (pg_name (i := 0) (show (["one", "prices", "other"] : List Str).Nodup by decide +kernel) rfl (Or.inl rfl))) (fun _ _ _ _ _ _ _ => (pe_call G_thing_cost (hr.mono (by decide)) rfl D_thing_cost.m D_thing_cost.fn.kp D_thing_cost.b .nil pass0 (pa_cons (pv 1) (pa_cons (pv 0) (pa_cons (pv 2) pa_nil)))))) pa_nil))))))
      (pss_one (ps_ret (pv 2))))), ?_⟩
    refine ⟨_, rfl, .txt c, _, rfl, rfl, for_enum (K := K) (c := .txt c) (xs := signsV c) (fun i σ H2 => ∃ v3 v4, σ = [some (.ref x), some (.str c), some (.int (colC (tcF sg rows fo fm) c.cps.toList i)), v3, v4] ∧ Same H H2) ⟨_, _, rfl, Same.refl _⟩ (fun i σ H2 _ _ => rfl) ?_ ?_⟩
    · rintro i y p1 σ H2 hy hp1 ⟨v3, v4, rfl, s2⟩
      obtain ⟨d, hd, rfl⟩ := signs_get hy
      have hi := cps_lt hd
      have hdl : c.cps.toList[i]? = some d := by rw [Array.getElem?_toList]; exact hd
      have s3 := s2.trans (Same.upd (o := .tup [.int (i : Int), .str ⟨#[d]⟩]) hp1)
      have e1 := slice_up c i
      have e2 : (Txt.slice c none (some (i : Int))).cps.size = i := by rw [← Array.length_toList, e1, List.length_take, Array.length_toList]; omega
      refine ⟨p1, _, rfl, SqT.of upd_same, rfl, _, _, rfl, _, _, rfl, rfl, ?_⟩
      refine ⟨_, rfl, _, rfl, _, rfl, _, rfl, c, rfl, hz, _, rfl, fun l hl => ?_⟩
      refine cm_map i (fun j => V.int (tcF sg rows fo fm (c.cps.toList.getD j 0) d)) hl (Nat.lt_of_le_of_lt (show i ≤ 100 by omega) (by decide)) (fun j H4 s4 hj => ?_) (fun H4 s4 => ?_) (fun j y H4 H5 R s4 hj hy hR => ?_) fun H4 s4 hl4 => ?_
      · show j < (Txt.slice c none (some (i : Int))).cps.size
        omega
      · show (Txt.slice c none (some (i : Int))).cps.size ≤ i
        omega
      · obtain ⟨rfl, e, he, rfl⟩ := hy
        have he' : c.cps.toList[j]? = some e := by
          rw [← Array.getElem?_toList, e1, List.getElem?_take, if_pos hj] at he
          exact he
        refine ⟨Kp.set0, ?_⟩
        refine ⟨_, rfl, _, rfl, _, rfl, x, sg, rows, fo, fm, e, d, rfl, hP.same (s3.trans s4), hO _ (List.mem_of_getElem? he'), hO _ (List.mem_of_getElem? hdl), fun H6 s6 => ?_⟩
        have z := hR H6 s6
        rw [getD_of he'] at z
        exact z
      · refine ⟨l, (List.range i).map fun j => tcF sg rows fo fm (c.cps.toList.getD j 0) d, rfl, SqL.of (by rw [hl4, List.map_map]; rfl), _, _, rfl, rfl, some (.int (i : Int)), some (.str ⟨#[d]⟩), ?_, s3.trans s4⟩
        have e3 : colC (tcF sg rows fo fm) c.cps.toList (i + 1) = colC (tcF sg rows fo fm) c.cps.toList i + ((List.range i).map fun j => tcF sg rows fo fm (c.cps.toList.getD j 0) d).sum := by
          rw [sm_range]
          show colC (tcF sg rows fo fm) c.cps.toList i + sm (fun j => tcF sg rows fo fm (c.cps.toList.getD j 0) (c.cps.toList.getD i 0)) i = _
          rw [getD_of hdl]
        rw [e3]
        rfl
    · rintro σ H2 ⟨v3, v4, rfl, s2⟩
      rw [signs_length]
      exact ⟨_, rfl, k H2 s2⟩
theorem ok_block_units {f_block_units f_column_cost f_columns_of : Addr} {fd_block_units fd_column_cost fd_columns_of : FuncData} {p : Pm} (T : Txt K mg p) (D_block_units : Dn K mg "block_units" s_block_units ["prices", "block"] f_block_units fd_block_units) (D_column_cost : Dn K mg "column_cost" s_column_cost ["prices", "column"] f_column_cost fd_column_cost) (G_column_cost : FnOk P w K mg base CX0 4 f_column_cost fd_column_cost ["prices", "column"] (spColCost K p.C_Prices)) (D_columns_of : Dn K mg "columns_of" s_columns_of ["rows"] f_columns_of fd_columns_of) (G_columns_of : FnOk P w K mg base CX0 3 f_columns_of fd_columns_of ["rows"] (spColumns K)) : FnOk P w K mg base CX0 5 f_block_units fd_block_units ["prices", "block"] (spBlkUnits K p.C_Prices p.C_Block) := by
  refine D_block_units.fn.ok sc_block_units (fun vs H Q E h => ?_) (fun cdv A outer s H vs Q E hr h => ?_)
  · obtain ⟨x, b, sg, rows, fo, fm, rs, rfl, _⟩ := h
    rfl
  · obtain ⟨x, b, sg, rows, fo, fm, rs, rfl, hP, ⟨dx, q, hb, hq⟩, hS, hl, hO, k⟩ := h
    obtain ⟨hne, hw⟩ := lenB_iff.mp hl
    refine ⟨_, (pss_one (ps_ret (pe_callB (call_sumK (K' := K) rfl rfl) rfl T.z_sum bo_sum (pa_cons (pe_comp (N := ["column", "prices"]) rfl (CompSc.freeB (nt := 1) (ix := [0]) rfl (by decide +kernel) (by decide +kernel) (by kernel_rfl) rfl (by kernel_rfl)) (pi_list (pe_call G_columns_of (hr.mono (by decide)) rfl D_columns_of.m D_columns_of.fn.kp D_columns_of.b .nil pass0 (pa_cons (pe_fld (pv 1) rfl) pa_nil))) (fun _ _ _ _ _ _ _ => (pg_name (i := 0) (show (["column", "prices"] : List Str).Nodup by decide +kernel) rfl (Or.inl rfl))) (fun _ _ _ _ _ _ _ => (pe_call G_column_cost (hr.mono (by decide)) rfl D_column_cost.m D_column_cost.fn.kp D_column_cost.b .nil pass0 (pa_cons (pv 1) (pa_cons (pv 0) pa_nil))))) pa_nil)))), ?_⟩
    refine ⟨_, rfl, b, _, dx, _, _, rfl, hb, T.cl_Block, T.n_Block_rows, rows_at, .ref q, rs, rfl, ⟨q, rfl, .inr hq⟩, hS, hl, fun l0 H1 s1 hn1 hl1 => ?_⟩
    have hwd : wid rs ≤ 1000 := by
      obtain ⟨r0, hr0⟩ := List.exists_mem_of_ne_nil rs hne
      rw [← hw r0 hr0]
      exact hS.row r0 hr0
    refine ⟨l0, rfl, ⟨_, SqL.of hl1⟩, fun l hl2 => ?_⟩
    refine cm_map (wid rs) (fun j => V.int (colC (tcF sg rows fo fm) (colL rs j) rs.length)) hl2 (Nat.lt_of_le_of_lt hwd (by decide)) (fun j H4 s4 hj => ?_) (fun H4 s4 => ?_) (fun j y H4 H5 R s4 hj hy hR => ?_) fun H4 s4 hl4 => ?_
    · exact ⟨_, _, SqL.of (s4 _ _ hl1), by rw [List.getElem?_map, cols_at hj]; rfl⟩
    · exact ⟨_, SqL.of (s4 _ _ hl1), by rw [List.length_map]; unfold cols; rw [List.length_map, List.length_range]; exact Nat.le_refl _⟩
    · obtain ⟨rfl, hy⟩ := hy
      have ey := hy _ (SqL.of (s4 _ _ hl1))
      rw [List.getElem?_map, cols_at hj] at ey
      cases ey
      have e1 : (colS rs j).cps.toList = colL rs j := rfl
      have e2 : (colS rs j).cps.size = rs.length := List.length_map ..
      refine ⟨Kp.set0, ?_⟩
      refine ⟨_, rfl, _, rfl, x, sg, rows, fo, fm, colS rs j, rfl, hP.same (s1.trans s4), fun c hc => ?_, by rw [e2]; exact hS.len, fun H6 s6 => ?_⟩
      · rw [e1] at hc
        obtain ⟨r, hr, rfl⟩ := List.mem_map.mp (show c ∈ rs.map fun r => r.cps.toList.getD j 0 from hc)
        have hj' : j < r.cps.toList.length := by rw [Array.length_toList, hw r hr]; exact hj
        rw [getD_of (List.getElem?_eq_getElem hj')]
        exact hO r hr _ (List.getElem_mem hj')
      · rw [e1, e2]
        exact hR H6 s6
    · refine ⟨l, (List.range (wid rs)).map fun j => colC (tcF sg rows fo fm) (colL rs j) rs.length, rfl, SqL.of (by rw [hl4, List.map_map]; rfl), ?_⟩
      have z := k H4 (s1.trans s4)
      unfold blkC at z
      rw [← sm_range] at z
      exact z
theorem ok_block_cost {f_block_cost f_check_block_rows f_block_units f_in_units : Addr} {fd_block_cost fd_check_block_rows fd_block_units fd_in_units : FuncData} {p : Pm} (T : Txt K mg p) (D_block_cost : Dn K mg "block_cost" s_block_cost ["prices", "block"] f_block_cost fd_block_cost) (D_check_block_rows : Dn K mg "check_block_rows" s_check_block_rows ["prices", "rows"] f_check_block_rows fd_check_block_rows) (G_check_block_rows : FnOk P w K mg base (CXs P w) 4 f_check_block_rows fd_check_block_rows ["prices", "rows"] (spBlockRows K p.C_Prices p.C_NoSign)) (D_block_units : Dn K mg "block_units" s_block_units ["prices", "block"] f_block_units fd_block_units) (G_block_units : FnOk P w K mg base CX0 5 f_block_units fd_block_units ["prices", "block"] (spBlkUnits K p.C_Prices p.C_Block)) (D_in_units : Dn K mg "in_units" s_in_units ["prices", "number"] f_in_units fd_in_units) (G_in_units : FnOk P w K mg base CX0 2 f_in_units fd_in_units ["prices", "number"] (spInUnits K p.C_Prices)) : FnOk P w K mg base (CXs P w) 6 f_block_cost fd_block_cost ["prices", "block"] (spBlkCost K p.C_Prices p.C_Block p.C_NoSign) := by
  refine D_block_cost.fn.okX sc_block_cost (fun vs H Q E h => ?_) (fun cdv A outer s H vs Q E hr h => ?_)
  · obtain ⟨x, b, sg, rows, fo, fm, rs, rfl, _⟩ := h
    rfl
  · obtain ⟨x, b, sg, rows, fo, fm, rs, rfl, hP, hB, hS, hl, kq, ke⟩ := h
    obtain ⟨dx, q, hb, hq⟩ := id hB
    refine ⟨_, (pss_cons (ps_expr (pe_call G_check_block_rows (hr.mono (by decide)) rfl D_check_block_rows.m D_check_block_rows.fn.kp D_check_block_rows.b .nil (Lets.passes lets_fn) (pa_cons (pv 0) (pa_cons (pe_fld (pv 1) rfl) pa_nil))))
      (pss_one (ps_ret (pe_call G_in_units (hr.mono (by decide)) rfl D_in_units.m D_in_units.fn.kp D_in_units.b .nil pass0 (pa_cons (pv 0) (pa_cons (pe_call G_block_units (hr.mono (by decide)) rfl D_block_units.m D_block_units.fn.kp D_block_units.b .nil pass0 (pa_cons (pv 0) (pa_cons (pv 1) pa_nil))) pa_nil)))))), ?_⟩
    refine ⟨_, rfl, _, rfl, b, _, dx, _, _, rfl, hb, T.cl_Block, T.n_Block_rows, rows_at, x, sg, rows, fo, fm, .ref q, rs, rfl, hP, ⟨q, rfl, .inr hq⟩, hS, fun ho H1 s1 => ?_, ke⟩
    refine ⟨_, rfl, _, rfl, _, rfl, x, b, sg, rows, fo, fm, rs, rfl, hP.same s1, hB.same s1, hS, hl, ho, fun H2 s2 => ?_⟩
    exact ⟨x, _, sg, rows, fo, fm, rfl, hP.same (s1.trans s2), fun q' H3 s3 hn hq' => kq ho q' H3 ((s1.trans s2).trans s3) (Same.free (s1.trans s2) hn) hq'⟩
end
section
variable {P : Program} {w : World} {K : PySem.W.Frag} {mg : Str → Option Value} {base : Heap}
theorem ok_law_signs {f_law_signs f_law_next : Addr} {fd_law_signs fd_law_next : FuncData} {p : Pm} (T : Txt K mg p) (D_law_signs : Dn K mg "_law_signs" s_law_signs ["_law_script", "_law_at", "_law_many"] f_law_signs fd_law_signs) (D_law_next : Dn K mg "_law_next" s_law_next ["_law_script", "_law_at"] f_law_next fd_law_next) (G_law_next : FnOk P w K mg base CX0 1 f_law_next fd_law_next ["_law_script", "_law_at"] (spNext K)) : FnOk P w K mg base CX0 2 f_law_signs fd_law_signs ["_law_script", "_law_at", "_law_many"] (spSignsC K) := by
  refine D_law_signs.fn.ok sc_law_signs (fun vs H Q E h => ?_) (fun cdv A outer s H vs Q E hr h => ?_)
  · obtain ⟨s, t, ns, k, n, rfl, _⟩ := h
    rfl
  · obtain ⟨s, t, ns, k, n, rfl, hC, hk, hn, kk⟩ := h
    refine ⟨_, (pss_cons (ps_set (i := 3) sc_law_signs.nd rfl (Or.inr rfl) pe_str)
      (pss_cons (ps_set (i := 3) sc_law_signs.nd rfl (Or.inr rfl) (pe_op op_add_str (pv 3) pe_str))
      (pss_cons (ps_set (i := 4) sc_law_signs.nd rfl (Or.inr rfl) (pe_call G_law_next (hr.mono (by decide)) rfl D_law_next.m D_law_next.fn.kp D_law_next.b .nil pass0 (pa_cons (pv 0) (pa_cons (pv 1) pa_nil))))
      (pss_cons (ps_set (i := 5) sc_law_signs.nd rfl (Or.inr rfl) (pe_ix ix_list (pe_lst (pa_cons pe_int (pa_cons pe_int (pa_cons pe_int (pa_cons pe_int (pa_cons pe_int (pa_cons pe_int pa_nil))))))) (pe_op op_mod (pv 4) pe_int) (fun _ _ => rfl)))
      (pss_one (ps_ret (pe_bm PySem.F.plainAttrs_str PySem.F.slot_str_join PySem.F.type_str_join mt_join pe_str (pa_cons (pe_comp (N := ["_law_k", "_law_some", "_law_m", "_law_turn"]) rfl (CompSc.freeB (nt := 1) (ix := [3, 4, 5]) rfl (by decide +kernel) (by decide +kernel) (by kernel_rfl) rfl (by kernel_rfl)) (pi_range1 rfl T.z_range (pa_cons (pv 2) pa_nil)) (fun _ _ _ _ _ _ _ => (pg_name (i := 0) (show (["_law_k", "_law_some", "_law_m", "_law_turn"] : List Str).Nodup by decide +kernel) rfl (Or.inl rfl))) (fun _ _ _ _ _ _ _ => (pe_ix ix_str (pv 1) (pe_op op_mod (pe_op op_add (pe_op op_fdiv (pv 2) pe_int) (pe_op op_mul (pv 0) (pv 3))) pe_int) (fun _ _ => rfl)))) pa_nil)))))))), ?_⟩
    refine ⟨_, rfl, _, _, rfl, rfl, (by decide +kernel), ?_⟩
    obtain ⟨S, hS⟩ : ∃ S : Str, S = Str.ofString " !#$&'()*+,./0123456789:;<=>?@ABCDEFGHIJKLMNOPQRSTUVWXYZ" ++ Str.ofString "[\\]^_`abcdefghijklmnopqrstuvwxyz{|}~" := ⟨_, rfl⟩
    have hS1 : S.cps.size = 92 := by rw [hS]; kernel_rfl
    have hS2 : S.cps.all isSignN = true := by rw [hS]; kernel_rfl
    have hS3 : S.cps.toList.Nodup := incB_nodup (by rw [hS]; kernel_rfl)
    rw [← hS]
    refine ⟨_, rfl, _, rfl, s, t, ns, k, rfl, hC, hk, fun m hm hm2 => ?_⟩
    refine ⟨by show 6 ≤ sizeLine; decide, fun q hq => ?_⟩
    have s1 : Same (upd H t (.lst [.int (k + 1)])) (upd (upd H t (.lst [.int (k + 1)])) q (.lst [.int 1, .int 3, .int 5, .int 7, .int 9, .int 11])) := Same.upd hq
    have hq1 : upd (upd H t (.lst [.int (k + 1)])) q (.lst [.int 1, .int 3, .int 5, .int 7, .int 9, .int 11]) q = some (.lst [.int 1, .int 3, .int 5, .int 7, .int 9, .int 11]) := upd_same
    generalize upd (upd H t (.lst [.int (k + 1)])) q (.lst [.int 1, .int 3, .int 5, .int 7, .int 9, .int 11]) = H1 at s1 hq1 ⊢
    obtain ⟨tv, htv, ⟨ht1, ht2⟩, hat⟩ : ∃ tv : Int, (tv = 1 ∨ tv = 3 ∨ tv = 5 ∨ tv = 7 ∨ tv = 9 ∨ tv = 11) ∧ (0 ≤ tv ∧ tv ≤ 11) ∧ atI [V.int 1, .int 3, .int 5, .int 7, .int 9, .int 11] (m % 6) = some (.int tv) := by
      have h1 := Int.emod_nonneg m (show (6 : Int) ≠ 0 by decide)
      have h2 := Int.emod_lt_of_pos m (show (0 : Int) < 6 by decide)
      have e : m % 6 = 0 ∨ m % 6 = 1 ∨ m % 6 = 2 ∨ m % 6 = 3 ∨ m % 6 = 4 ∨ m % 6 = 5 := by omega
      rcases e with e | e | e | e | e | e <;> rw [e]
      · exact ⟨1, by decide, by decide, rfl⟩
      · exact ⟨3, by decide, by decide, rfl⟩
      · exact ⟨5, by decide, by decide, rfl⟩
      · exact ⟨7, by decide, by decide, rfl⟩
      · exact ⟨9, by decide, by decide, rfl⟩
      · exact ⟨11, by decide, by decide, rfl⟩
    refine ⟨_, rfl, _, _, rfl, rfl, (by show (0 : Int) < 6; decide), ?_⟩
    refine ⟨q, _, _, .int tv, rfl, rfl, SqL.of hq1, hat, ?_⟩
    refine ⟨rfl, _, rfl, n, rfl, by omega, by omega, fun l hl => ?_⟩
    refine cm_map n (fun i => sg (S.cps.toList.getD ((m / 6 + (i : Int) * tv) % 92).toNat 0)) hl (Nat.lt_of_le_of_lt hn (by decide)) (fun i H2 s2 hi => ?_) (fun H2 s2 => ?_) (fun i x H2 H3 R s2 hi y hR => ?_) fun H2 s2 hl2 => ?_
    · show i < ((n : Nat) : Int).toNat
      omega
    · show ((n : Nat) : Int).toNat ≤ n
      omega
    · obtain ⟨rfl, rfl⟩ := y
      refine ⟨Kp.set0, ?_⟩
      have i1 := Int.emod_nonneg (m / 6 + (i : Int) * tv) (show (92 : Int) ≠ 0 by decide)
      have i2 := Int.emod_lt_of_pos (m / 6 + (i : Int) * tv) (show (0 : Int) < 92 by decide)
      obtain ⟨j, hj⟩ : ∃ j : Nat, (m / 6 + (i : Int) * tv) % 92 = (j : Int) := ⟨_, (Int.toNat_of_nonneg i1).symm⟩
      have hjl : j < S.cps.toList.length := by rw [Array.length_toList]; omega
      refine ⟨_, rfl, _, rfl, _, _, rfl, rfl, ⟨by decide, by decide⟩, _, rfl, _, rfl, _, _, rfl, rfl, .inl ⟨by omega, by omega⟩, _, _, rfl, rfl, _, _, rfl, rfl, (by show (0 : Int) < 92; decide), ?_⟩
      refine ⟨S, _, S.cps.toList[j], rfl, rfl, (by show S.cps.size ≤ _; rw [hS1]; decide), (by rw [Int.zero_add, hj]; exact atI_nat (List.getElem?_eq_getElem hjl)), ?_⟩
      have e : S.cps.toList[j] = S.cps.toList.getD ((m / 6 + (i : Int) * tv) % 92).toNat 0 := by
        rw [hj, Int.toNat_natCast, getD_of (List.getElem?_eq_getElem hjl)]
      rw [e]
      exact hR _ (Same.refl _)
    · refine ⟨l, (List.range n).map (fun i : Nat => S.cps.toList.getD ((m / 6 + (i : Int) * tv) % 92).toNat 0), rfl, rfl, ?_, ?_, kk _ H2 ?_ (fun c hc => ?_) (nodup_pick hS3 n (fun i _ => ?_) fun i j hij hj => turn_ne htv hij (by omega)) (s1.trans s2)⟩
      · rw [List.map_map]
        exact SqL.of hl2
      · rw [List.length_map, List.length_range]; omega
      · show ((List.range n).map _).length = n
        rw [List.length_map, List.length_range]
      · obtain ⟨i, hi, rfl⟩ := List.mem_map.mp (show c ∈ (List.range n).map _ from hc)
        have i1 := Int.emod_nonneg (m / 6 + (i : Int) * tv) (show (92 : Int) ≠ 0 by decide)
        have i2 := Int.emod_lt_of_pos (m / 6 + (i : Int) * tv) (show (0 : Int) < 92 by decide)
        obtain ⟨j, hj⟩ : ∃ j : Nat, (m / 6 + (i : Int) * tv) % 92 = (j : Int) := ⟨_, (Int.toNat_of_nonneg i1).symm⟩
        have hjl : j < S.cps.toList.length := by rw [Array.length_toList]; omega
        rw [hj, Int.toNat_natCast, getD_of (List.getElem?_eq_getElem hjl)]
        exact Array.all_eq_true_iff_forall_mem.mp hS2 _ (Array.mem_toList_iff.mp (List.getElem_mem hjl))
      · have i1 := Int.emod_nonneg (m / 6 + (i : Int) * tv) (show (92 : Int) ≠ 0 by decide)
        have i2 := Int.emod_lt_of_pos (m / 6 + (i : Int) * tv) (show (0 : Int) < 92 by decide)
        rw [Array.length_toList]
        omega
theorem ok_law_price {f_law_price f_law_next : Addr} {fd_law_price fd_law_next : FuncData} {p : Pm} (T : Txt K mg p) (D_law_price : Dn K mg "_law_price" s_law_price ["_law_script", "_law_at"] f_law_price fd_law_price) (D_law_next : Dn K mg "_law_next" s_law_next ["_law_script", "_law_at"] f_law_next fd_law_next) (G_law_next : FnOk P w K mg base CX0 1 f_law_next fd_law_next ["_law_script", "_law_at"] (spNext K)) : FnOk P w K mg base CX0 2 f_law_price fd_law_price ["_law_script", "_law_at"] (spFrac K) := by
  refine D_law_price.fn.ok sc_law_price (fun vs H Q E h => ?_) (fun cdv A outer s H vs Q E hr h => ?_)
  · obtain ⟨s, t, ns, k, rfl, _⟩ := h
    rfl
  · obtain ⟨s, t, ns, k, rfl, hC, hk2, kk⟩ := h
    have hS2 := hC.scr'
    have hk := hC.k0
    refine ⟨_, (pss_cons (ps_set (i := 2) sc_law_price.nd rfl (Or.inl rfl) (pe_call G_law_next (hr.mono (by decide)) rfl D_law_next.m D_law_next.fn.kp D_law_next.b .nil pass0 (pa_cons (pv 0) (pa_cons (pv 1) pa_nil))))
      (pss_cons (ps_set (i := 3) sc_law_price.nd rfl (Or.inl rfl) pe_int)
      (pss_mid (ps_if (pt_cmpR op_gt (pe_callB (call_len) rfl T.z_len bo_len (pa_cons (pv 0) pa_nil)) pe_int (nomark _)) (pss_one (ps_set (i := 3) sc_law_price.nd rfl (Or.inl rfl) (pe_ix ix_list (pv 0) (pe_op op_mod (pe_ix ix_list (pv 1) pe_int (fun _ _ => rfl)) (pe_callB (call_len) rfl T.z_len bo_len (pa_cons (pv 0) pa_nil))) (fun _ _ => rfl)))) pss_nil)
      (pss_cons (ps_set (i := 4) sc_law_price.nd rfl (Or.inl rfl) (pe_ix ix_list (pe_lst (pa_cons pe_int (pa_cons pe_int (pa_cons pe_int (pa_cons pe_int (pa_cons pe_int (pa_cons (pe_op op_add pe_int (pe_op op_mod (pe_op op_fdiv (pv 2) pe_int) pe_int)) pa_nil))))))) (pe_op op_mod (pv 2) pe_int) (fun _ _ => rfl)))
      (pss_cons (ps_if (pt_cmpR op_eq (pe_op op_mod (pe_op op_fdiv (pv 2) pe_int) pe_int) pe_int (nomark _)) (pss_one (ps_ret (pe_tup (pa_cons (pe_op op_sub (pe_op op_mod (pv 3) (pe_op op_pow pe_int pe_int)) (pe_op op_mul pe_int (pe_op op_pow pe_int pe_int))) (pa_cons (pv 4) pa_nil))))) pss_nil)
      (pss_one (ps_ret (pe_tup (pa_cons (pe_op op_sub (pe_op op_mod (pe_op op_fdiv (pv 2) pe_int) pe_int) pe_int) (pa_cons (pv 4) pa_nil)))))))))), ?_⟩
    refine ⟨_, rfl, _, rfl, s, t, ns, k, rfl, hC, hk2, fun m hm hm2 => ?_⟩
    have hq := hS2 (.lst [.int (k + 1)])
    have hAt : SqL K (upd H t (.lst [.int (k + 1)])) t [.int (k + 1)] := SqL.of upd_same
    refine ⟨fun σ H2 => H2 = upd H t (.lst [.int (k + 1)]) ∧ ∃ c : Int, σ = [some (.ref s), some (.ref t), some (.int m), some (.int c), none], ?_, ?_⟩
    · refine ⟨_, rfl, _, _, rfl, .inl ⟨_, hq, rfl⟩, _, _, rfl, rfl, _, rfl, ?_⟩
      refine ite_dec (fun h0 => ?_) (fun h0 => ?_)
      · have hn : 0 < ns.length := by rw [List.length_map] at h0; omega
        have i1 := Int.emod_nonneg (k + 1) (show ((ns.length : Nat) : Int) ≠ 0 by omega)
        have i2 := Int.emod_lt_of_pos (k + 1) (show (0 : Int) < ((ns.length : Nat) : Int) by omega)
        obtain ⟨j, hj⟩ : ∃ j : Nat, (k + 1) % ((ns.length : Nat) : Int) = (j : Int) := ⟨_, (Int.toNat_of_nonneg i1).symm⟩
        have hjl : j < ns.length := by omega
        refine ⟨_, rfl, _, rfl, t, _, _, _, rfl, rfl, hAt, rfl, _, rfl, _, _, rfl, .inl ⟨_, hq, rfl⟩, _, _, rfl, rfl, (by show (0 : Int) < (((ns.map V.int).length : Nat) : Int); rw [List.length_map]; omega), ?_⟩
        refine ⟨s, _, _, .int ns[j], rfl, rfl, hq, ?_, ?_⟩
        · rw [List.length_map, hj]
          exact atI_nat (by rw [List.getElem?_map, List.getElem?_eq_getElem hjl]; rfl)
        · exact ⟨rfl, _, rfl⟩
      · exact ⟨rfl, _, rfl⟩
    · rintro σ H2 ⟨rfl, c, rfl⟩
      obtain ⟨v, hv, hv1, hv2⟩ : ∃ v : Int, atI [V.int 1, V.int 1, V.int 2, V.int 3, V.int 4, V.int (1 + m / 6 % 999)] (m % 6) = some (V.int v) ∧ 1 ≤ v ∧ v ≤ 999 := by
        have h6 : m % 6 = 0 ∨ m % 6 = 1 ∨ m % 6 = 2 ∨ m % 6 = 3 ∨ m % 6 = 4 ∨ m % 6 = 5 := by omega
        rcases h6 with h | h | h | h | h | h
        · rw [h]; exact ⟨1, rfl, by omega, by omega⟩
        · rw [h]; exact ⟨1, rfl, by omega, by omega⟩
        · rw [h]; exact ⟨2, rfl, by omega, by omega⟩
        · rw [h]; exact ⟨3, rfl, by omega, by omega⟩
        · rw [h]; exact ⟨4, rfl, by omega, by omega⟩
        · rw [h]; exact ⟨1 + m / 6 % 999, rfl, by omega, by omega⟩
      refine ⟨_, rfl, _, _, rfl, rfl, ⟨by decide, by decide⟩, _, _, rfl, rfl, (by show (0 : Int) < _; decide), _, _, rfl, rfl, (by show 6 ≤ sizeLine; decide), fun l hl' => ?_⟩
      have s1 : Same (upd H t (.lst [.int (k + 1)])) (upd (upd H t (.lst [.int (k + 1)])) l (.lst [.int 1, .int 1, .int 2, .int 3, .int 4, .int (1 + m / 6 % 999)])) := Same.upd hl'
      have fre : ∀ r, upd (upd H t (.lst [.int (k + 1)])) l (.lst [.int 1, .int 1, .int 2, .int 3, .int 4, .int (1 + m / 6 % 999)]) r = none → H r = none := fun r hr => upd_free (Same.free s1 hr)
      have last : ∀ c : Int, Sm c → ∀ r, upd (upd H t (.lst [.int (k + 1)])) l (.lst [.int 1, .int 1, .int 2, .int 3, .int 4, .int (1 + m / 6 % 999)]) r = none →
          Q (.ref r) (upd (upd (upd H t (.lst [.int (k + 1)])) l (.lst [.int 1, .int 1, .int 2, .int 3, .int 4, .int (1 + m / 6 % 999)])) r (.tup [.int c, .int v])) := fun c hc r hr =>
        kk (c, v) r _ ⟨hv1, hv2, hc⟩ (s1.trans (Same.upd hr)) (fre r hr) upd_same
      refine ⟨_, rfl, _, _, rfl, rfl, (by show (0 : Int) < _; decide), l, _, _, _, rfl, rfl, SqL.of upd_same, hv, ?_⟩
      refine ⟨_, rfl, _, _, rfl, rfl, ⟨by decide, by decide⟩, _, _, rfl, rfl, (by show (0 : Int) < _; decide), rfl, _, rfl, ?_⟩
      refine ite_eq (fun h4 => ?_) (fun h4 => ?_)
      · refine ⟨_, rfl, _, _, rfl, rfl, ⟨by decide, by decide, by decide⟩, _, _, rfl, rfl, (by show (0 : Int) < _; decide), _, _, rfl, rfl, ⟨by decide, by decide, by decide⟩, _, _, rfl, rfl, .inl ⟨by decide, by decide⟩, _, _, rfl, rfl, _, rfl, ?_⟩
        exact ⟨by show 2 ≤ sizeLine; decide, fun r hr => last _ (bg_cell40 _) r hr⟩
      · refine ⟨_, rfl, _, _, rfl, rfl, ⟨by decide, by decide⟩, _, _, rfl, rfl, (by show (0 : Int) < _; decide), _, _, rfl, rfl, _, rfl, ?_⟩
        exact ⟨by show 2 ≤ sizeLine; decide, fun r hr => last _ (bg_small (by omega) (by omega)) r hr⟩
end
section
variable {P : Program} {w : World} {K : PySem.W.Frag} {mg : Str → Option Value} {base : Heap}
theorem ok_law_prices {f_law_prices f_law_price f_Prices___init__ : Addr} {fd_law_prices fd_law_price fd_Prices___init__ : FuncData} {p : Pm} (T : Txt K mg p) (D_law_prices : Dn K mg "_law_prices" s_law_prices ["_law_script", "_law_at", "_law_signs_here", "_law_same"] f_law_prices fd_law_prices) (D_law_price : Dn K mg "_law_price" s_law_price ["_law_script", "_law_at"] f_law_price fd_law_price) (G_law_price : FnOk P w K mg base CX0 2 f_law_price fd_law_price ["_law_script", "_law_at"] (spFrac K)) (D_Prices___init__ : Dm K "__init__" "Prices.__init__" s_Prices___init__ ["self", "signs", "pairs", "opening", "more"] f_Prices___init__ fd_Prices___init__) (M_Prices : Mk K p.C_Prices f_Prices___init__) (G_Prices___init__ : FnOk P w K mg base CX0 5 f_Prices___init__ fd_Prices___init__ ["self", "signs", "pairs", "opening", "more"] (spInit K p.C_Prices)) : FnOk P w K mg base CX0 7 f_law_prices fd_law_prices ["_law_script", "_law_at", "_law_signs_here", "_law_same"] (spPricesC K p.C_Prices) := by
  refine D_law_prices.fn.ok sc_law_prices (fun vs H Q E h => ?_) (fun cdv A outer s H vs Q E hr h => ?_)
  · obtain ⟨s, t, ns, k, sg, b, rfl, _⟩ := h
    rfl
  · obtain ⟨s, t, ns, k, sg, b, rfl, hC, hk, hsg, h12, kk⟩ := h
    obtain ⟨N, hNe⟩ : ∃ N, N = sg.cps.size := ⟨_, rfl⟩
    have k0 := hC.k0
    have hN2 : N ≤ 12 := by omega
    have hz : sg.length ≤ sizeLine := Nat.le_trans (show sg.cps.size ≤ 100 by omega) (by decide)
    refine ⟨_, (pss_cons (ps_setComp (i := 4) (N := ["_law_one", "_law_script", "_law_at", "_law_signs_here"]) sc_law_prices.nd rfl (Or.inl rfl) rfl (CompSc.freeB (nt := 1) (ix := [0, 1, 2]) rfl (by decide +kernel) (by decide +kernel) (by kernel_rfl) rfl (by kernel_rfl)) (pi_txt (pv 2)) (fun _ _ _ _ _ _ _ => (pg_name (i := 0) (show (["_law_one", "_law_script", "_law_at", "_law_signs_here"] : List Str).Nodup by decide +kernel) rfl (Or.inl rfl))) (fun _ _ _ _ _ _ _ => (pe_comp (N := ["_law_other", "_law_script", "_law_at"]) rfl (CompSc.freeB (nt := 1) (ix := [1, 2]) rfl (by decide +kernel) (by decide +kernel) (by kernel_rfl) rfl (by kernel_rfl)) (pi_txt (pv 3)) (fun _ _ _ _ _ _ _ => (pg_name (i := 0) (show (["_law_other", "_law_script", "_law_at"] : List Str).Nodup by decide +kernel) rfl (Or.inl rfl))) (fun _ _ _ _ _ _ _ => (pe_call G_law_price (hr.mono (by decide)) rfl D_law_price.m D_law_price.fn.kp D_law_price.b .nil pass0 (pa_cons (pv 1) (pa_cons (pv 2) pa_nil)))))))
      (pss_cons (ps_for PassesOwn.never rfl (pi_range1 rfl T.z_range (pa_cons (pe_callB (call_len) rfl T.z_len bo_len (pa_cons (pv 2) pa_nil)) pa_nil)) (pg_name (i := 5) sc_law_prices.nd rfl (Or.inl rfl)) (pss_one (ps_for PassesOwn.never rfl (pi_range1 rfl T.z_range (pa_cons (pv 5) pa_nil)) (pg_name (i := 6) sc_law_prices.nd rfl (Or.inl rfl)) (pss_one (ps_if (pt_val (pv 3)) (pss_one (ps_asg (pe_ix ix_list (pe_ix ix_list (pv 4) (pv 6) (fun _ _ => rfl)) (pv 5) (fun _ _ => rfl)) (pg_sub (pe_ix ix_list (pv 4) (pv 5) (fun _ _ => rfl)) (pv 6) set_list))) pss_nil)))))
      (pss_one (ps_ret (pe_make M_Prices G_Prices___init__ (hr.mono (by decide)) rfl T.mg_Prices D_Prices___init__.b .nil pass0 (pa_cons (pv 2) (pa_cons (pv 4) (pa_cons (pe_call G_law_price (hr.mono (by decide)) rfl D_law_price.m D_law_price.fn.kp D_law_price.b .nil pass0 (pa_cons (pv 0) (pa_cons (pv 1) pa_nil))) (pa_cons (pe_call G_law_price (hr.mono (by decide)) rfl D_law_price.m D_law_price.fn.kp D_law_price.b .nil pass0 (pa_cons (pv 0) (pa_cons (pv 1) pa_nil))) pa_nil))))))))), ?_⟩
    -- _law_pairs
    refine ⟨_, rfl, sg, rfl, fun l hl => ?_⟩
    have nlt : l ≠ t := fun z => by rw [z, hC.at_] at hl; cases hl
    refine ⟨fun i m ys H2 => m = N - i ∧ i ≤ N ∧ ∃ rs rows, ys = rs.map V.ref ∧ rs.length = i ∧ LMat K (Wo t H2) l rs rows ∧ (∀ r ∈ rows, r.length = N) ∧ (∀ r ∈ rows, ∀ f ∈ r, OkL f) ∧ (∀ r ∈ rs, H r = none) ∧ Same (Wo t H) (Wo t H2) ∧ H2 t = some (.lst [.int (k + ((i * N : Nat) : Int))]), ⟨N, rfl, Nat.zero_le _, [], [], rfl, rfl, ?_, ?_, ?_, ?_, ?_, ?_⟩, ?_⟩
    · rw [Wo.upd_ne nlt]
      exact ⟨rfl, upd_same, List.nodup_nil, (by simp), fun i r row h1 => by simp at h1⟩
    · intro r hr; cases hr
    · intro r hr; cases hr
    · intro r hr; cases hr
    · rw [Wo.upd_ne nlt]; exact Same.upd (Wo.free hl)
    · rw [upd_ne nlt.symm, hC.at_, Nat.zero_mul]; simp
    rintro i m' ys H2 ⟨rfl, hi, rs, rows, rfl, hrs, L2', r1, r2, r3, s2, ht2⟩
    by_cases hlt : i < N
    · refine .inr ⟨(by show i < sg.cps.size; omega), ?_⟩
      rintro x H3 ⟨rfl, cx, hcx, rfl⟩
      refine ⟨Kp.set0, ?_⟩
      refine ⟨_, rfl, sg, rfl, fun l2 hl2 => ?_⟩
      have nlt2 : l2 ≠ t := fun z => by rw [z, ht2] at hl2; cases hl2
      have hl20 : H l2 = none := Wo.back s2 ht2 hl2
      refine ⟨fun j m ys H4 => m = N - j ∧ j ≤ N ∧ H4 l2 = some (.lst ys) ∧ ∃ ps row, ys = ps.map V.ref ∧ ps.length = j ∧ Paired (FrAt K (Wo t H4)) ps row ∧ (∀ f ∈ row, OkL f) ∧ Same (Wo t H3) (Wo t H4) ∧ H4 t = some (.lst [.int (k + ((i * N : Nat) : Int) + (j : Int))]),
        ⟨N, rfl, Nat.zero_le _, upd_same, [], [], rfl, rfl, .nil, fun f hf => (by cases hf), ?_, ?_⟩, ?_⟩
      · rw [Wo.upd_ne nlt2]; exact Same.upd (Wo.free hl2)
      · rw [upd_ne nlt2.symm, ht2]; simp
      rintro j m' ys H4 ⟨rfl, hj, hl4, ps, row, rfl, hps, hP, ok, s4, ht4⟩
      have s04 : Same (Wo t H) (Wo t H4) := s2.trans s4
      by_cases hjt : j < N
      · refine .inr ⟨(by show j < sg.cps.size; omega), ?_⟩
        rintro x H5 ⟨rfl, cy, hcy, rfl⟩
        refine ⟨Kp.set0, ?_⟩
        have hiN : i * N ≤ 144 := Nat.le_trans (Nat.mul_le_mul (show i ≤ 12 by omega) hN2) (by decide)
        refine ⟨_, rfl, _, rfl, s, t, ns, _, rfl, hC.off s04 ht4 (by omega), by omega, fun f q H6 okf s6 hqn hq6 => ?_⟩
        have w6 := Wo.step s6
        have ht6 := s6 _ _ upd_same
        have nq : q ≠ t := ne_of hq6 ht6 (by intro z; cases z)
        have hl6 : Wo t H6 l2 = some (.lst (ps.map V.ref)) := w6 _ _ (Wo.in nlt2 hl4)
        refine ⟨Wo.sub _ _ hl6, ?_, N - (j + 1), by omega, rfl, hjt, upd_same, ps ++ [q], row ++ [f], by rw [List.map_append]; rfl, by rw [List.length_append, hps]; rfl, ?_, ?_, ?_, ?_⟩
        · rw [List.length_map, hps]
          exact Nat.lt_of_lt_of_le (show j < 100 by omega) (by decide)
        · rw [Wo.upd_ne nlt2]
          refine GP.Paired.snoc (Paired.mapP hP fun a b z => SqT.off hl6 (z.same w6)) ?_
          exact SqT.off hl6 (SqT.of (Wo.in nq hq6))
        · intro g hg
          rcases List.mem_append.mp hg with hg | hg
          · exact ok g hg
          · rw [List.mem_singleton.mp hg]; exact okf
        · rw [Wo.upd_ne nlt2]
          exact Same.at (s4.trans w6) (Wo.free hl2)
        · rw [upd_ne nlt2.symm, ht6]
          simp only [Int.natCast_add, Int.natCast_one, Int.add_assoc]
      · have ej : j = N := by omega
        refine .inl ⟨(by show sg.cps.size ≤ j; omega), ?_⟩
        have hlo : Wo t H4 l = some (.lst (rs.map V.ref)) := s4 _ _ L2'.at_
        refine ⟨Wo.sub _ _ hlo, ?_, N - (i + 1), by omega, rfl, hlt, rs ++ [l2], rows ++ [row], by rw [List.map_append]; rfl, by rw [List.length_append, hrs]; rfl, ?_, ?_, ?_, ?_, ?_, ?_⟩
        · rw [List.length_map, hrs]
          exact Nat.lt_of_lt_of_le (show i < 100 by omega) (by decide)
        · rw [Wo.upd_ne nlt]
          exact L2'.snoc s4 (Wo.free hl2) (Wo.in nlt2 hl4) hP
        · intro r hr
          rcases List.mem_append.mp hr with hr | hr
          · exact r1 r hr
          · rw [List.mem_singleton.mp hr, ← Paired.len hP, hps, ej]
        · intro r hr
          rcases List.mem_append.mp hr with hr | hr
          · exact r2 r hr
          · rw [List.mem_singleton.mp hr]; exact ok
        · intro r hr
          rcases List.mem_append.mp hr with hr | hr
          · exact r3 r hr
          · rw [List.mem_singleton.mp hr]; exact hl20
        · rw [Wo.upd_ne nlt]
          exact Same.at s04 (Wo.free hl)
        · rw [upd_ne nlt.symm, ht4, Nat.succ_mul, ej]
          simp only [Int.natCast_add, Int.add_assoc]
    · have ei : i = N := by omega
      subst ei
      refine .inl ⟨(by show sg.cps.size ≤ i; omega), ?_⟩
      have hii : i * i ≤ 144 := Nat.le_trans (Nat.mul_le_mul hN2 hN2) (by decide)
      have P2 : PairsOk K H t l i (k + ((i * i : Nat) : Int)) H2 := ⟨rs, rows, L2', ⟨by rw [← L2'.len, hrs], r1⟩, r2, r3, s2, ht2⟩
      refine ⟨_, rfl, _, _, rfl, ⟨hz, rfl⟩, ((i : Nat) : Int), (by rw [hNe]; rfl), by omega, by omega, ?_⟩
      refine for_range (lo := 0) (n := ((i : Int)).toNat) (fun a σ H3 => ∃ v5 v6, σ = [some (.ref s), some (.ref t), some (.str sg), some (.bl b), some (.ref l), v5, v6] ∧ PairsOk K H t l i (k + ((i * i : Nat) : Int)) H3) ⟨_, _, rfl, P2⟩ ?_ ?_
      · rintro a σ H3 ha ⟨v5, v6, rfl, P3⟩
        refine ⟨_, rfl, _, rfl, by omega, by omega, ?_⟩
        refine for_range (lo := 0) (n := (0 + (a : Int)).toNat) (fun c σ H4 => ∃ v6, σ = [some (.ref s), some (.ref t), some (.str sg), some (.bl b), some (.ref l), some (.int (0 + (a : Int))), v6] ∧ PairsOk K H t l i (k + ((i * i : Nat) : Int)) H4) ⟨_, rfl, P3⟩ ?_ ?_
        · rintro c σ H4 hc ⟨v6, rfl, rs, rows, LM, sq, ok, nw, s4, ht4⟩
          refine ⟨_, rfl, _, rfl, ?_⟩
          cases b with
          | false => exact iteF ⟨_, rfl, rs, rows, LM, sq, ok, nw, s4, ht4⟩
          | true =>
            refine iteT ?_
            have ha' : a < rows.length := by rw [sq.1]; omega
            have hc' : c < rows.length := by rw [sq.1]; omega
            have ha2 : a < rs.length := by rw [LM.len]; exact ha'
            have hc2 : c < rs.length := by rw [LM.len]; exact hc'
            obtain ⟨psa, hra, hPa⟩ := LM.row a _ _ (List.getElem?_eq_getElem ha2) (List.getElem?_eq_getElem ha')
            obtain ⟨psc, hrc, hPc⟩ := LM.row c _ _ (List.getElem?_eq_getElem hc2) (List.getElem?_eq_getElem hc')
            have la := sq.2 rows[a] (List.getElem_mem ha')
            have lc := sq.2 rows[c] (List.getElem_mem hc')
            have hac : a < psc.length := by rw [Paired.len hPc, lc]; omega
            have hca : c < psa.length := by rw [Paired.len hPa, la]; omega
            obtain ⟨f, ef, hf⟩ := Paired.at hPc (List.getElem?_eq_getElem hac)
            have hll := Wo.sub _ _ LM.at_
            have hrc' := Wo.sub _ _ hrc
            have hra' := Wo.sub _ _ hra
            refine ⟨_, rfl, _, rfl, l, _, _, .ref rs[c], rfl, rfl, SqL.of hll, (by rw [Int.zero_add]; exact atI_nat (by rw [List.getElem?_map, List.getElem?_eq_getElem hc2]; rfl)), ?_⟩
            refine ⟨_, rfl, rs[c], _, _, .ref psc[a], rfl, rfl, SqL.of hrc', (by rw [Int.zero_add]; exact atI_nat (by rw [List.getElem?_map, List.getElem?_eq_getElem hac]; rfl)), ?_⟩
            refine ⟨_, rfl, _, rfl, l, _, _, .ref rs[a], rfl, rfl, SqL.of hll, (by rw [Int.zero_add]; exact atI_nat (by rw [List.getElem?_map, List.getElem?_eq_getElem ha2]; rfl)), ?_⟩
            refine ⟨_, rfl, rs[a], _, _, c, rfl, rfl, hra', ?_, ?_⟩
            · rw [Int.zero_add]
              unfold ixN
              rw [if_pos (by omega), if_pos (by rw [List.length_map]; omega)]
              simp
            have nra : rs[a] ≠ t := Wo.ne hra
            refine ⟨_, rfl, rs, rows.set a (rows[a].set c f), ?_, ⟨by rw [List.length_set]; exact sq.1, fun r hr => ?_⟩, fun r hr g hg => ?_, nw, ?_, ?_⟩
            · rw [Wo.upd_ne nra]
              exact LM.put (List.getElem?_eq_getElem ha2) (List.getElem?_eq_getElem ha') hra hPa hf
            · rcases List.mem_or_eq_of_mem_set hr with hr | hr
              · exact sq.2 r hr
              · rw [hr, List.length_set]; exact la
            · rcases List.mem_or_eq_of_mem_set hr with hr | hr
              · exact ok r hr g hg
              · rw [hr] at hg
                rcases List.mem_or_eq_of_mem_set hg with hg | hg
                · exact ok _ (List.getElem_mem ha') g hg
                · rw [hg]; exact ok _ (List.getElem_mem hc') f (List.mem_of_getElem? ef)
            · rw [Wo.upd_ne nra]
              exact Same.at s4 (Wo.free (nw _ (List.getElem_mem ha2)))
            · rw [upd_ne nra.symm]; exact ht4
        · rintro σ H4 ⟨v6, rfl, P4⟩
          exact ⟨_, _, rfl, P4⟩
      · rintro σ H3 ⟨v5, v6, rfl, rs, rows, LM, sq, okl, nw, s2, ht2⟩
        have C2 : Ctr K H3 s t ns (k + ((i * i : Nat) : Int)) := hC.off s2 ht2 (by omega)
        -- opening
        refine ⟨_, rfl, _, rfl, _, rfl, _, rfl, s, t, ns, _, rfl, C2, by omega, fun fo o H4 oko s3 hon ho3 => ?_⟩
        have w3 := Wo.step s3
        have ht3 := s3 _ _ upd_same
        have C3 : Ctr K H4 s t ns (k + ((i * i : Nat) : Int) + 1) := C2.off w3 ht3 (by omega)
        -- more
        refine ⟨_, rfl, _, rfl, s, t, ns, _, rfl, C3, by omega, fun fm m H5 okm s4 hmn hm4 => ?_⟩
        have w4 := Wo.step s4
        have ht4 := s4 _ _ upd_same
        have ho4 : FrAt K H5 o fo := SqT.of (Wo.sub _ _ (w4 _ _ (Wo.in (ne_of ho3 ht3 (by intro z; cases z)) ho3)))
        have hm4' : FrAt K H5 m fm := SqT.of hm4
        have L4 : LMat K H5 l rs rows := ((LM.same w3).same w4).same Wo.sub
        have off4 : Same (Wo t H) (Wo t H5) := (s2.trans w3).trans w4
        intro x dx hx hdx ndx
        generalize hH6 : upd (upd H5 dx (.own x)) x (.ins p.C_Prices dx []) = H6
        have s6 : Same H5 H6 := by
          rw [← hH6]
          exact (Same.upd hdx).trans (Same.upd (by rw [upd_ne ndx.symm]; exact hx))
        have hx6 : H6 x = some (.ins p.C_Prices dx []) := by rw [← hH6]; exact upd_same
        refine ⟨x, dx, o, m, sg, .lst l, rows, fo, fm, rfl, hx6, hsg, h12, (L4.same s6).matN, (by rw [← hNe]; exact sq), fun r hr f hf => (okl r hr f hf).h, ho4.same s6, oko.h, hm4'.same s6, okm.h, fun H7 P7 f7 nf7 => ⟨rfl, ?_⟩⟩
        have s7 : Same H5 H7 := fun b u e => f7 b u (s6 b u e) fun z => by rw [z, hx] at e; cases e
        exact kk x H7 _ (loR rows) (loF fo) (loF fm) (P7.wo (s7 _ _ ht4) (nf7 t (by rw [s6 _ _ ht4]; exact fun z => nomatch z))) (Wo.back off4 ht4 hx) (off4.trans (Wo.same s7)) (s7 _ _ ht4) (by omega) (by omega)
end
section
variable {P : Program} {w : World} {K : PySem.W.Frag} {mg : Str → Option Value} {base : Heap}
theorem ok_law_cost {f_law_cost f_law_thing : Addr} {fd_law_cost fd_law_thing : FuncData} {p : Pm} (T : Txt K mg p) (D_law_cost : Dn K mg "_law_cost" s_law_cost ["_law_prices_here", "_law_rows_here"] f_law_cost fd_law_cost) (D_law_thing : Dn K mg "_law_thing" s_law_thing ["_law_prices_here", "_law_one", "_law_other"] f_law_thing fd_law_thing) (G_law_thing : FnOk P w K mg base CX0 3 f_law_thing fd_law_thing ["_law_prices_here", "_law_one", "_law_other"] (spThing K p.C_Prices)) : FnOk P w K mg base CX0 4 f_law_cost fd_law_cost ["_law_prices_here", "_law_rows_here"] (spCostC K p.C_Prices) := by
  refine D_law_cost.fn.ok sc_law_cost (fun vs H Q E h => ?_) (fun cdv A outer s H vs Q E hr h => ?_)
  · obtain ⟨x, a, sg, rows, fo, fm, rs, rfl, _⟩ := h
    rfl
  · obtain ⟨x, a, sg, rows, fo, fm, rs, rfl, hP, ha, hS, hl, hO, k⟩ := h
    obtain ⟨hne, hw⟩ := lenB_iff.mp hl
    have hn := hS.len
    have hr0 : rs[0]? = some (rs.headD ⟨#[]⟩) := by
      cases rs with
      | nil => exact absurd rfl hne
      | cons r0 t => rfl
    have hwd : wid rs ≤ 1000 := hS.row _ (List.mem_of_getElem? hr0)
    have hat : ∀ i k, i < rs.length → k < wid rs → ∃ r, rs[i]? = some r ∧ r.cps.size ≤ 1000 ∧ r.cps.toList[k]? = some (thAt rs i k) ∧ thAt rs i k ∈ (knS sg).cps.toList := fun i k hi hk => by
      have hm := List.getElem_mem hi
      have hk' : k < rs[i].cps.toList.length := by rw [Array.length_toList, hw _ hm]; exact hk
      have e : thAt rs i k = rs[i].cps.toList[k] := by
        unfold thAt
        rw [getD_of (List.getElem?_eq_getElem hi), getD_of (List.getElem?_eq_getElem hk')]
      exact ⟨rs[i], List.getElem?_eq_getElem hi, hS.row _ hm, by rw [e]; exact List.getElem?_eq_getElem hk', by rw [e]; exact hO _ hm _ (List.getElem_mem hk')⟩
    obtain ⟨g, hg⟩ : ∃ g : Nat → Nat → Nat → Int, g = fun k i r => tcF sg rows fo fm (thAt rs i k) (thAt rs r k) := ⟨_, rfl⟩
    obtain ⟨R, hR⟩ : ∃ R : Nat → Nat → Int, R = fun i j => if i < j then sm (fun k => g k i j) (wid rs) else 0 := ⟨_, rfl⟩
    refine ⟨_, (pss_cons (ps_set (i := 2) sc_law_cost.nd rfl (Or.inl rfl) pe_int)
      (pss_cons (ps_for PassesOwn.never rfl (pi_range1 rfl T.z_range (pa_cons (pe_callB (call_len) rfl T.z_len bo_len (pa_cons (pv 1) pa_nil)) pa_nil)) (pg_name (i := 3) sc_law_cost.nd rfl (Or.inl rfl)) (pss_one (ps_for PassesOwn.never rfl (pi_range2 rfl T.z_range (pa_cons (pe_op op_add (pv 3) pe_int) (pa_cons (pe_callB (call_len) rfl T.z_len bo_len (pa_cons (pv 1) pa_nil)) pa_nil))) (pg_name (i := 4) sc_law_cost.nd rfl (Or.inl rfl)) (pss_one (ps_for PassesOwn.never rfl (pi_range1 rfl T.z_range (pa_cons (pe_callB (call_len) rfl T.z_len bo_len (pa_cons (pe_ix ix_list (pv 1) pe_int (fun _ _ => rfl)) pa_nil)) pa_nil)) (pg_name (i := 5) sc_law_cost.nd rfl (Or.inl rfl)) (pss_one (ps_set (i := 2) sc_law_cost.nd rfl (Or.inl rfl) (pe_op op_add (pv 2) (pe_call G_law_thing (hr.mono (by decide)) rfl D_law_thing.m D_law_thing.fn.kp D_law_thing.b .nil pass0 (pa_cons (pv 0) (pa_cons (pe_ix ix_str (pe_ix ix_list (pv 1) (pv 3) (fun _ _ => rfl)) (pv 5) (fun _ _ => rfl)) (pa_cons (pe_ix ix_str (pe_ix ix_list (pv 1) (pv 4) (fun _ _ => rfl)) (pv 5) (fun _ _ => rfl)) pa_nil))))))))))))
      (pss_one (ps_ret (pv 2))))), ?_⟩
    refine ⟨_, rfl, _, _, rfl, .inl ⟨_, ha, rfl⟩, ((rs.length : Nat) : Int), (by rw [List.length_map]), by omega, by omega, ?_⟩
    refine for_range (lo := 0) (n := ((rs.length : Nat) : Int).toNat) (fun i σ H2 => ∃ v3 v4 v5, σ = [some (.ref x), some (.ref a), some (.int (sm (fun i => sm (R i) rs.length) i)), v3, v4, v5] ∧ Same H H2) ⟨_, _, _, rfl, Same.refl _⟩ ?_ ?_
    · rintro i σ H2 hi ⟨v3, v4, v5, rfl, s2⟩
      have hi' : i < rs.length := by omega
      refine ⟨_, rfl, _, _, rfl, rfl, _, rfl, _, _, rfl, .inl ⟨_, Same.seq s2 ha, rfl⟩, 0 + (i : Int) + 1, ((rs.length : Nat) : Int), (by rw [List.length_map]), ⟨by omega, by omega, by omega, by omega⟩, ?_⟩
      refine for_range (lo := 0 + (i : Int) + 1) (n := (((rs.length : Nat) : Int) - (0 + (i : Int) + 1)).toNat) (fun d σ H3 => ∃ v4 v5, σ = [some (.ref x), some (.ref a), some (.int (sm (fun i => sm (R i) rs.length) i + sm (R i) (i + 1 + d))), some (.int (0 + (i : Int))), v4, v5] ∧ Same H H3) ⟨v4, v5, ?_, s2⟩ ?_ ?_
      · have e : sm (R i) (i + 1 + 0) = 0 := by rw [hR]; exact sm_none _ _ (Nat.le_refl _)
        rw [e, Int.add_zero]
        rfl
      · rintro d σ H3 hd ⟨v4, v5, rfl, s3⟩
        have hj : i + 1 + d < rs.length := by omega
        refine ⟨_, rfl, a, _, _, .str (rs.headD ⟨#[]⟩), rfl, rfl, Same.seq s3 ha, atI_nat (j := 0) (by rw [List.getElem?_map, hr0]; rfl), _, _, rfl, ⟨Nat.le_trans hwd (by decide), rfl⟩, ((wid rs : Nat) : Int), rfl, by omega, by omega, ?_⟩
        refine for_range (lo := 0) (n := ((wid rs : Nat) : Int).toNat) (fun q σ H4 => ∃ v5, σ = [some (.ref x), some (.ref a), some (.int (sm (fun i => sm (R i) rs.length) i + sm (R i) (i + 1 + d) + sm (fun k => g k i (i + 1 + d)) q)), some (.int (0 + (i : Int))), some (.int (0 + (i : Int) + 1 + (d : Int))), v5] ∧ Same H H4) ⟨v5, ?_, s3⟩ ?_ ?_
        · show _ = [_, _, some (V.int (_ + 0)), _, _, _]
          rw [Int.add_zero]
          rfl
        · rintro q σ H4 hq ⟨v5, rfl, s4⟩
          obtain ⟨r1, e1, z1, c1, o1⟩ := hat i q hi' (by omega)
          obtain ⟨r2, e2, z2, c2, o2⟩ := hat (i + 1 + d) q hj (by omega)
          have a4 := Same.seq s4 ha
          refine ⟨_, rfl, _, rfl, _, rfl, _, rfl, a, _, _, .str r1, rfl, rfl, a4, (by rw [Int.zero_add]; exact atI_nat (by rw [List.getElem?_map, e1]; rfl)), ?_⟩
          refine ⟨_, rfl, r1, _, _, rfl, rfl, Nat.le_trans z1 (by decide), (by rw [Int.zero_add]; exact atI_nat c1), ?_⟩
          refine ⟨_, rfl, _, rfl, a, _, _, .str r2, rfl, rfl, a4, (by rw [show 0 + (i : Int) + 1 + (d : Int) = ((i + 1 + d : Nat) : Int) by omega]; exact atI_nat (by rw [List.getElem?_map, e2]; rfl)), ?_⟩
          refine ⟨_, rfl, r2, _, _, rfl, rfl, Nat.le_trans z2 (by decide), (by rw [Int.zero_add]; exact atI_nat c2), ?_⟩
          refine ⟨x, sg, rows, fo, fm, _, _, rfl, hP.same s4, o1, o2, fun H5 s5 => ?_⟩
          refine ⟨_, _, rfl, rfl, some (.int (0 + (q : Int))), ?_, s4.trans s5⟩
          have e3 : sm (fun k => g k i (i + 1 + d)) (q + 1) = sm (fun k => g k i (i + 1 + d)) q + tcF sg rows fo fm (thAt rs i q) (thAt rs (i + 1 + d) q) := by
            show sm (fun k => g k i (i + 1 + d)) q + g q i (i + 1 + d) = _
            rw [hg]
          rw [e3, ← Int.add_assoc]
          rfl
        · rintro σ H4 ⟨v5, rfl, s4⟩
          refine ⟨some (.int (0 + (i : Int) + 1 + (d : Int))), v5, ?_, s4⟩
          have e4 : sm (R i) (i + 1 + d + 1) = sm (R i) (i + 1 + d) + sm (fun k => g k i (i + 1 + d)) (wid rs) := by
            show sm (R i) (i + 1 + d) + R i (i + 1 + d) = _
            rw [hR]
            show _ + (if i < i + 1 + d then _ else _) = _
            rw [if_pos (by omega)]
          rw [show i + 1 + (d + 1) = i + 1 + d + 1 by omega, e4, Int.toNat_natCast, ← Int.add_assoc]
      · rintro σ H3 ⟨v4, v5, rfl, s3⟩
        refine ⟨some (.int (0 + (i : Int))), v4, v5, ?_, s3⟩
        rw [show i + 1 + (((rs.length : Nat) : Int) - (0 + (i : Int) + 1)).toNat = rs.length by omega]
        rfl
    · rintro σ H2 ⟨v3, v4, v5, rfl, s2⟩
      refine ⟨_, rfl, ?_⟩
      have z := k H2 s2
      rw [← blkC_law] at z
      rw [Int.toNat_natCast, hR, hg]
      exact z
theorem ok_law_whole {f_law_whole : Addr} {fd_law_whole : FuncData} {p : Pm} (T : Txt K mg p) (D_law_whole : Dn K mg "_law_whole" s_law_whole ["_law_found"] f_law_whole fd_law_whole)  : FnOk P w K mg base CX0 1 f_law_whole fd_law_whole ["_law_found"] spWholeI := by
  refine D_law_whole.fn.ok sc_law_whole (fun vs H Q E h => ?_) (fun cdv A outer s H vs Q E hr h => ?_)
  · obtain ⟨n, rfl, _⟩ := h
    rfl
  · obtain ⟨n, rfl, k⟩ := h
    refine ⟨_, (pss_one (ps_ret (pe_and (pe_callB (call_isinst) rfl T.z_isinstance bo_isinstance (pa_cons (pv 0) (pa_cons (pe_bltn (v := .ty "int") rfl T.z_int bo_int rfl) pa_nil))) (pe_one (pe_not (pe_callB (call_isinst) rfl T.z_isinstance bo_isinstance (pa_cons (pv 0) (pa_cons (pe_bltn (v := .ty "bool") rfl T.z_bool bo_bool rfl) pa_nil)))))))), ?_⟩
    refine ⟨_, rfl, _, _, _, _, rfl, .int n, kit_same, _, rfl, iteT ?_⟩
    exact ⟨_, rfl, _, _, _, _, rfl, .int n, kit_int_bool, _, rfl, k⟩
theorem ok_law_is_cost {f_law_is_cost f_law_whole f_in_units : Addr} {fd_law_is_cost fd_law_whole fd_in_units : FuncData} {p : Pm} (T : Txt K mg p) (D_law_is_cost : Dn K mg "_law_is_cost" s_law_is_cost ["_law_prices_here", "_law_found", "_law_units"] f_law_is_cost fd_law_is_cost) (D_law_whole : Dn K mg "_law_whole" s_law_whole ["_law_found"] f_law_whole fd_law_whole) (G_law_whole : FnOk P w K mg base CX0 1 f_law_whole fd_law_whole ["_law_found"] spWholeI) (D_in_units : Dn K mg "in_units" s_in_units ["prices", "number"] f_in_units fd_in_units) (G_in_units : FnOk P w K mg base CX0 2 f_in_units fd_in_units ["prices", "number"] (spInUnits K p.C_Prices)) : FnOk P w K mg base CX0 3 f_law_is_cost fd_law_is_cost ["_law_prices_here", "_law_found", "_law_units"] (spIsCost K p.C_Prices) := by
  refine D_law_is_cost.fn.ok sc_law_is_cost (fun vs H Q E h => ?_) (fun cdv A outer s H vs Q E hr h => ?_)
  · obtain ⟨x, q, sg, rows, fo, fm, n, rfl, _⟩ := h
    rfl
  · obtain ⟨x, q, sg, rows, fo, fm, n, rfl, hP, hq, k⟩ := h
    have hSq : SqT K H q [.int (loF (n, unitOf fo.2 fm.2 rows)).1, .int (loF (n, unitOf fo.2 fm.2 rows)).2] := SqT.of hq
    refine ⟨_, (pss_cons (ps_if (PW.pt (pw_or (pt_not (pt_val (pe_callB (call_isinstS) rfl T.z_isinstance bo_isinstance (pa_cons (pv 1) (pa_cons (pe_bltn (v := .ty "tuple") rfl T.z_tuple bo_tuple rfl) pa_nil))))) (pw_or (pt_cmpR op_ne (pe_callB (call_len) rfl T.z_len bo_len (pa_cons (pv 1) pa_nil)) pe_int (nomark _)) (pw_or (pt_not (pt_val (pe_call G_law_whole (hr.mono (by decide)) rfl D_law_whole.m D_law_whole.fn.kp D_law_whole.b .nil pass0 (pa_cons (pe_ix ix_tup (pv 1) pe_int (fun _ _ => rfl)) pa_nil)))) (pw_or1 (pt_not (pt_val (pe_call G_law_whole (hr.mono (by decide)) rfl D_law_whole.m D_law_whole.fn.kp D_law_whole.b .nil pass0 (pa_cons (pe_ix ix_tup (pv 1) pe_int (fun _ _ => rfl)) pa_nil))))))))) (pss_one (ps_ret pe_bl)) pss_nil)
      (pss_one (ps_ret (pe_cmpR (op_eqT (Nat.lt_of_succ_lt (hu_of hr))) (pv 1) (pe_call G_in_units (hr.mono (by decide)) rfl D_in_units.m D_in_units.fn.kp D_in_units.b .nil pass0 (pa_cons (pv 0) (pa_cons (pv 2) pa_nil))) (nomark _))))), ?_⟩
    refine ⟨_, rfl, _, "tuple", .type "tuple", true, rfl, .inr ⟨q, _, rfl, hSq, rfl⟩, (by kernel_rfl), _, rfl, iteNT ?_⟩
    refine ⟨_, rfl, _, _, rfl, .inr ⟨_, hSq, rfl⟩, rfl, _, rfl, ?_⟩
    refine ite_ne (fun z => absurd rfl z) fun _ => ?_
    refine ⟨_, rfl, q, _, _, _, rfl, rfl, hSq, rfl, _, rfl, _, rfl, iteNT ?_⟩
    refine ⟨_, rfl, q, _, _, _, rfl, rfl, hSq, rfl, _, rfl, _, rfl, iteNT ?_⟩
    refine ⟨_, rfl, _, rfl, _, rfl, x, n, sg, rows, fo, fm, rfl, hP, fun q2 H' s' hn2 hq2 => ?_⟩
    refine ⟨q, q2, _, _, rfl, rfl, SqT.of (s' _ _ hq), SqT.of hq2, rfl, rfl, ?_⟩
    have e : ∀ a b : Int, tupEq [V.int a, V.int b] [V.int a, V.int b] = true := fun a b => by
      simp [tupEq, List.range, List.range.loop, eqV]
    show Q (.bl (tupEq _ _)) _
    rw [e]
    exact k H' s'
end
section
variable {P : Program} {w : World} {K : PySem.W.Frag} {mg : Str → Option Value} {base : Heap}
theorem ok_law_strange {f_law_strange : Addr} {fd_law_strange : FuncData} {p : Pm} (T : Txt K mg p) (D_law_strange : Dn K mg "_law_strange" s_law_strange ["_law_rows_here", "_law_signs_here"] f_law_strange fd_law_strange)  : FnOk P w K mg base CX0 1 f_law_strange fd_law_strange ["_law_rows_here", "_law_signs_here"] (spStrC K) := by
  refine D_law_strange.fn.ok sc_law_strange (fun vs H Q E h => ?_) (fun cdv A outer s H vs Q E hr h => ?_)
  · obtain ⟨a, sg, rs, i, j, rfl, _⟩ := h
    rfl
  · obtain ⟨a, sg, rs, i, j, rfl, ha, hS, ⟨⟨ri, ci, hri, hci, hno, hb⟩, hbe⟩, k⟩ := h
    have hn := hS.len
    have hi : i < rs.length := (List.getElem?_eq_some_iff.mp hri).1
    have hj : j < ri.cps.size := cps_lt hci
    refine ⟨_, (pss_cons (ps_for PassesOwn.never rfl (pi_range1 rfl T.z_range (pa_cons (pe_callB (call_len) rfl T.z_len bo_len (pa_cons (pv 0) pa_nil)) pa_nil)) (pg_name (i := 2) sc_law_strange.nd rfl (Or.inl rfl)) (pss_one (ps_for PassesOwn.never rfl (pi_range1 rfl T.z_range (pa_cons (pe_callB (call_len) rfl T.z_len bo_len (pa_cons (pe_ix ix_list (pv 0) (pv 2) (fun _ _ => rfl)) pa_nil)) pa_nil)) (pg_name (i := 3) sc_law_strange.nd rfl (Or.inl rfl)) (pss_one (ps_if (PW.pt (pw_and (pt_cmpR op_ne (pe_ix ix_str (pe_ix ix_list (pv 0) (pv 2) (fun _ _ => rfl)) (pv 3) (fun _ _ => rfl)) pe_str (nomark _)) (pw_and1 (pt_cmpR op_notIn_str (pe_ix ix_str (pe_ix ix_list (pv 0) (pv 2) (fun _ _ => rfl)) (pv 3) (fun _ _ => rfl)) (pv 1) (by with_unfolding_all rfl))))) (pss_one (ps_ret (pe_tup (pa_cons (pv 2) (pa_cons (pv 3) pa_nil))))) pss_nil)))))
      (pss_one (ps_ret pe_non))), ?_⟩
    refine ⟨_, rfl, _, _, rfl, .inl ⟨_, ha, rfl⟩, ((rs.length : Nat) : Int), (by rw [List.length_map]), by omega, by omega, ?_⟩
    refine for_range (lo := 0) (n := ((rs.length : Nat) : Int).toNat) (fun r σ H2 => r ≤ i ∧ ∃ v2 v3, σ = [some (.ref a), some (.str sg), v2, v3] ∧ H2 = H) ⟨Nat.zero_le _, _, _, rfl, rfl⟩ ?_ ?_
    · rintro r σ H2 hr ⟨hle, v2, v3, rfl, rfl⟩
      have hr' : r < rs.length := by omega
      have hrr := List.getElem?_eq_getElem hr'
      have hz := hS.row _ (List.getElem_mem hr')
      have hrow : SqL K H2 a (rs.map V.str) → atI (rs.map V.str) (0 + (r : Int)) = some (.str rs[r]) := fun _ => by rw [Int.zero_add]; exact atI_nat (by rw [List.getElem?_map, hrr]; rfl)
      refine ⟨_, rfl, _, rfl, a, _, _, .str rs[r], rfl, rfl, ha, hrow ha, _, _, rfl, ⟨Nat.le_trans hz (by decide), rfl⟩, ((rs[r].cps.size : Nat) : Int), rfl, by omega, by omega, ?_⟩
      refine for_range (lo := 0) (n := ((rs[r].cps.size : Nat) : Int).toNat) (fun q σ H3 => (r < i ∨ q ≤ j) ∧ ∃ v3, σ = [some (.ref a), some (.str sg), some (.int (0 + (r : Int))), v3] ∧ H3 = H2) ⟨.inr (Nat.zero_le _), _, rfl, rfl⟩ ?_ ?_
      · rintro q σ H3 hq ⟨hle2, v3, rfl, rfl⟩
        have hq' : q < rs[r].cps.toList.length := by rw [Array.length_toList]; omega
        have hcc := List.getElem?_eq_getElem hq'
        generalize rs[r].cps.toList[q] = c at hcc
        have hcc' : rs[r].cps[q]? = some c := by rw [← Array.getElem?_toList]; exact hcc
        refine ⟨_, rfl, _, rfl, a, _, _, .str rs[r], rfl, rfl, ha, hrow ha, _, rfl, rs[r], _, c, rfl, rfl, Nat.le_trans hz (by decide), (by rw [Int.zero_add]; exact atI_nat hcc), rfl, _, rfl, ?_⟩
        rw [gapD]
        have hgo : c ∈ (knS sg).cps.toList → (r < i ∨ q + 1 ≤ j) := fun hk => by
          rcases hle2 with z | z
          · exact .inl z
          · by_cases e : r = i
            · by_cases e2 : q = j
              · subst e e2
                rw [hrr] at hri
                cases hri
                rw [hcc'] at hci
                cases hci
                exact absurd hk hno
              · exact .inr (by omega)
            · exact .inl (by omega)
        by_cases e45 : c = 45
        · rw [decide_eq_true e45]
          exact iteNT ⟨hgo (knS_mem.mpr (.inl e45)), _, rfl, rfl⟩
        · rw [decide_eq_false e45]
          refine iteNF ⟨_, rfl, _, rfl, a, _, _, .str rs[r], rfl, rfl, ha, hrow ha, _, rfl, rs[r], _, c, rfl, rfl, Nat.le_trans hz (by decide), (by rw [Int.zero_add]; exact atI_nat hcc), _, rfl, _, _, rfl, rfl, _, rfl, ?_⟩
          rw [StrLaws.found_one]
          by_cases hm : c ∈ sg.cps.toList
          · rw [decide_eq_true hm]
            exact iteNT ⟨hgo (knS_mem.mpr (.inr hm)), _, rfl, rfl⟩
          · rw [decide_eq_false hm]
            have hk : c ∉ (knS sg).cps.toList := fun z => (knS_mem.mp z).elim e45 hm
            have er : r = i := Nat.le_antisymm hle (Nat.not_lt.mp fun z => hk (hbe r _ z hrr c (List.mem_of_getElem? hcc)))
            subst er
            rw [hrr] at hri
            cases hri
            have eq : q = j := by
              rcases hle2 with z | z
              · omega
              · exact Nat.le_antisymm z (Nat.not_lt.mp fun z2 => hk (hb q c z2 hcc'))
            subst eq
            refine iteNF ⟨_, rfl, _, rfl, by show 2 ≤ sizeLine; decide, fun t ht => k t _ (Same.upd ht) ?_⟩
            rw [upd_same, Int.zero_add, Int.zero_add]
      · rintro σ H3 ⟨hle2, v3, rfl, rfl⟩
        rcases hle2 with z | z
        · exact ⟨z, _, _, rfl, rfl⟩
        · by_cases e : r = i
          · subst e
            rw [hrr] at hri
            cases hri
            omega
          · exact ⟨by omega, _, _, rfl, rfl⟩
    · rintro σ H2 ⟨hle, v2, v3, rfl, rfl⟩
      omega
theorem ok_law_refused {f_law_refused f_block_cost f_Block___init__ f_law_whole : Addr} {fd_law_refused fd_block_cost fd_Block___init__ fd_law_whole : FuncData} {p : Pm} (T : Txt K mg p) (D_law_refused : Dn K mg "_law_refused" s_law_refused ["_law_prices_here", "_law_rows_here"] f_law_refused fd_law_refused) (D_block_cost : Dn K mg "block_cost" s_block_cost ["prices", "block"] f_block_cost fd_block_cost) (G_block_cost : FnOk P w K mg base (CXs P w) 6 f_block_cost fd_block_cost ["prices", "block"] (spBlkCost K p.C_Prices p.C_Block p.C_NoSign)) (D_Block___init__ : Dm K "__init__" "Block.__init__" s_Block___init__ ["self", "rows"] f_Block___init__ fd_Block___init__) (M_Block : Mk K p.C_Block f_Block___init__) (G_Block___init__ : FnOk P w K mg base (CXs P w) 5 f_Block___init__ fd_Block___init__ ["self", "rows"] (spBlock K p.C_Block p.C_NoBlock)) (D_law_whole : Dn K mg "_law_whole" s_law_whole ["_law_found"] f_law_whole fd_law_whole) (G_law_whole : FnOk P w K mg base CX0 1 f_law_whole fd_law_whole ["_law_found"] spWholeI) : FnOk P w K mg base CX0 9 f_law_refused fd_law_refused ["_law_prices_here", "_law_rows_here"] (spRefC K p.C_Prices) := by
  refine D_law_refused.fn.ok sc_law_refused (fun vs H Q E h => ?_) (fun cdv A outer s H vs Q E hr h => ?_)
  · obtain ⟨x, a, sg, rows, fo, fm, rs, i, j, rfl, _⟩ := h
    rfl
  · obtain ⟨x, a, sg, rows, fo, fm, rs, i, j, rfl, hP, ha, hS, hb, hB, kk⟩ := h
    refine ⟨_, (pss_cons (ps_set (i := 2) sc_law_refused.nd rfl (Or.inl rfl) pe_non)
      (pss_mid (ps_try fm_nox (fun _ _ _ LT PO => (pss_one (ps_expr (pe_callX G_block_cost (hr.mono (by decide)) rfl D_block_cost.m D_block_cost.fn.kp D_block_cost.b .nil LT (pa_cons (pv 0) (pa_cons (pe_makeX M_Block G_Block___init__ (hr.mono (by decide)) rfl T.mg_Block D_Block___init__.b .nil LT (pa_cons (pv 1) pa_nil)) pa_nil)))))) (ph_as (i := 3) sc_law_refused.nd rfl rfl rfl T.mg_WeaveError T.xb_WeaveError (fun ea => (pss_one (ps_set (i := 2) sc_law_refused.nd rfl (Or.inl rfl) (pv 3)))) ph_nil))
      (pss_cons (ps_if (PW.pt (pw_or (pt_not (pt_val (pe_callB (call_isinstXD) rfl T.z_isinstance bo_isinstance (pa_cons (pv 2) (pa_cons (pe_glob (v := .ref p.C_NoSign) rfl T.mg_NoSign rfl) pa_nil))))) (pw_or1 (pt_val (pe_callB (call_isinstXT) rfl T.z_isinstance bo_isinstance (pa_cons (pv 2) (pa_cons (pe_tup (pa_cons (pe_glob (v := .ref p.C_NoBlock) rfl T.mg_NoBlock rfl) (pa_cons (pe_glob (v := .ref p.C_NoRow) rfl T.mg_NoRow rfl) pa_nil))) pa_nil))))))) (pss_one (ps_ret pe_non)) pss_nil)
      (pss_cons (ps_if (PW.pt (pw_or (pt_not (pt_val (pe_call G_law_whole (hr.mono (by decide)) rfl D_law_whole.m D_law_whole.fn.kp D_law_whole.b .nil pass0 (pa_cons (pe_fldE (pv 2) rfl) pa_nil)))) (pw_or1 (pt_not (pt_val (pe_call G_law_whole (hr.mono (by decide)) rfl D_law_whole.m D_law_whole.fn.kp D_law_whole.b .nil pass0 (pa_cons (pe_fldE (pv 2) rfl) pa_nil))))))) (pss_one (ps_ret pe_non)) pss_nil)
      (pss_one (ps_ret (pe_tup (pa_cons (pe_fldE (pv 2) rfl) (pa_cons (pe_fldE (pv 2) rfl) pa_nil))))))))), ?_⟩
    refine ⟨fun σ' H' => Same H H' ∧ ∃ ea dx, σ' = [some (.ref x), some (.ref a), some (.ref ea), none] ∧ H' ea = some (exO ea (.ref p.C_NoSign) (some dx)) ∧ H' dx = some (xdO dx (fldS i j)), ?_, ?_⟩
    · refine ⟨_, rfl, _, rfl, fun o dx ho hdx ndx => ?_⟩
      have s1 : Same H (upd (upd H dx (.own o)) o (.ins p.C_Block dx [])) := Same.at (Same.upd hdx) ho
      refine ⟨o, dx, _, rs, rfl, upd_same, ⟨a, rfl, .inl (Same.seq s1 ha)⟩, hS, fun _ H' f' B' => ?_, fun z => (by rw [hb] at z; cases z)⟩
      have s2 : Same H H' := fun b u e => f' b u (s1 b u e) fun z => by rw [z, ho] at e; cases e
      refine ⟨rfl, x, o, sg, rows, fo, fm, rs, rfl, hP.same s2, B', hS, blockB_lenB hb, fun z => absurd z hB.no, fun i' j' hB' dx H2 s3 hd => ?_⟩
      obtain ⟨rfl, rfl⟩ := hB.uniq hB'
      exact ⟨_, _, rfl, T.ks_NoSign_WeaveError, iteT fun ea hea => ⟨_, rfl, (s2.trans s3).trans (Same.upd hea), ea, dx, rfl, upd_same, Same.upd hea _ _ hd⟩⟩
    rintro σ' H1 ⟨s1, ea, dx, rfl, he, hd⟩
    have xt := T.xt_NoSign
    have hod : ∀ {H2 : Hp}, Same H1 H2 → (some dx = none ∨ ∃ dx' fs, some dx = some dx' ∧ H2 dx' = some (xdO dx' fs)) := fun {H2} e => .inr ⟨dx, _, rfl, e _ _ hd⟩
    refine ⟨_, rfl, ea, p.C_NoSign, some dx, _, _, _, rfl, .inl ⟨_, rfl, rfl⟩, he, hod (Same.refl _), xt, T.ki_NoSign_NoSign, _, rfl, iteNT ?_⟩
    have k5 : PySem.W.kitAny K (.ref p.C_NoSign) ([p.C_NoBlock, p.C_NoRow].map Value.ref) = some false := kit_cons T.ki_NoSign_NoBlock (kit_cons T.ki_NoSign_NoRow kit_nil)
    refine ⟨_, rfl, by show 2 ≤ sizeLine; decide, fun t1 ht1 => ?_⟩
    have s2 : Same H1 (upd H1 t1 (.tup [.ref p.C_NoBlock, .ref p.C_NoRow])) := Same.upd ht1
    refine ⟨ea, p.C_NoSign, some dx, t1, [p.C_NoBlock, p.C_NoRow], _, rfl, upd_same, s2 _ _ he, hod s2, xt, k5, ?_⟩
    generalize upd H1 t1 (.tup [.ref p.C_NoBlock, .ref p.C_NoRow]) = H2 at s2 ⊢
    have he2 := s2 _ _ he
    have hd2 := s2 _ _ hd
    refine ⟨_, rfl, iteF ?_⟩
    refine ⟨_, rfl, ea, _, dx, _, _, rfl, he2, hd2, xt, T.n_NoSign_row, fldS_row, _, rfl, _, rfl, iteNT ?_⟩
    refine ⟨_, rfl, ea, _, dx, _, _, rfl, he2, hd2, xt, T.n_NoSign_place, fldS_place, _, rfl, _, rfl, iteNT ?_⟩
    refine ⟨_, rfl, ea, _, dx, _, _, rfl, he2, hd2, xt, T.n_NoSign_row, fldS_row, _, rfl, ea, _, dx, _, _, rfl, he2, hd2, xt, T.n_NoSign_place, fldS_place, by show 2 ≤ sizeLine; decide, fun t ht => ?_⟩
    exact kk t _ ((s1.trans s2).trans (Same.upd ht)) upd_same
end
section
variable {P : Program} {w : World} {K : PySem.W.Frag} {mg : Str → Option Value} {base : Heap}
theorem ok_law_column {f_law_column f_law_next : Addr} {fd_law_column fd_law_next : FuncData} {p : Pm} (T : Txt K mg p) (D_law_column : Dn K mg "_law_column" s_law_column ["_law_script", "_law_at", "_law_signs_here", "_law_many"] f_law_column fd_law_column) (D_law_next : Dn K mg "_law_next" s_law_next ["_law_script", "_law_at"] f_law_next fd_law_next) (G_law_next : FnOk P w K mg base CX0 1 f_law_next fd_law_next ["_law_script", "_law_at"] (spNext K)) : FnOk P w K mg base CX0 2 f_law_column fd_law_column ["_law_script", "_law_at", "_law_signs_here", "_law_many"] (spColC K) := by
  refine D_law_column.fn.ok sc_law_column (fun vs H Q E h => ?_) (fun cdv A outer s H vs Q E hr h => ?_)
  · obtain ⟨s, t, ns, k, x, n, rfl, _⟩ := h
    rfl
  · obtain ⟨s, t, ns, k, x, n, rfl, hC, hk, hn0, hn, hx0, hx, hxs, kk⟩ := h
    have k0 := hC.k0
    have hz : x.length ≤ sizeLine := Nat.le_trans hx (by decide)
    have pick : ∀ i : Int, 0 ≤ i → ∃ c, atI x.cps.toList (i % ((x.cps.size : Nat) : Int)) = some c ∧ (isSignN c = true ∧ c ∈ x.cps.toList) := fun i hi => by
      have i1 := Int.emod_nonneg i (show ((x.cps.size : Nat) : Int) ≠ 0 by omega)
      have i2 := Int.emod_lt_of_pos i (show (0 : Int) < ((x.cps.size : Nat) : Int) by omega)
      obtain ⟨j, hj⟩ : ∃ j : Nat, i % ((x.cps.size : Nat) : Int) = (j : Int) := ⟨_, (Int.toNat_of_nonneg i1).symm⟩
      have hjl : j < x.cps.toList.length := by rw [Array.length_toList]; omega
      exact ⟨x.cps.toList[j], by rw [hj]; exact atI_nat (List.getElem?_eq_getElem hjl), ⟨hxs _ (List.getElem_mem hjl), List.getElem_mem hjl⟩⟩
    refine ⟨_, (pss_cons (ps_set (i := 4) sc_law_column.nd rfl (Or.inl rfl) (pe_lst pa_nil))
      (pss_cons (ps_for PassesOwn.never rfl (pi_range1 rfl T.z_range (pa_cons (pv 3) pa_nil)) (pg_name (i := 5) sc_law_column.nd rfl (Or.inl rfl)) (pss_cons (ps_set (i := 6) sc_law_column.nd rfl (Or.inl rfl) (pe_call G_law_next (hr.mono (by decide)) rfl D_law_next.m D_law_next.fn.kp D_law_next.b .nil pass0 (pa_cons (pv 0) (pa_cons (pv 1) pa_nil))))
      (pss_one (ps_if (pt_cmpR op_eq (pe_op op_mod (pv 6) pe_int) pe_int (nomark _)) (pss_one (ps_expr (pe_bm PySem.F.plainAttrs_list PySem.F.slot_list_append PySem.F.type_list_append mt_append (pv 4) (pa_cons pe_str pa_nil)))) (pss_one (ps_expr (pe_bm PySem.F.plainAttrs_list PySem.F.slot_list_append PySem.F.type_list_append mt_append (pv 4) (pa_cons (pe_ix ix_str (pv 2) (pe_op op_mod (pe_op op_fdiv (pv 6) pe_int) (pe_callB (call_len) rfl T.z_len bo_len (pa_cons (pv 2) pa_nil))) (fun _ _ => rfl)) pa_nil))))))))
      (pss_cons (ps_if (pt_cmpR (op_eqL (Nat.lt_of_succ_lt (hu_of hr))) (pv 4) (pe_op op_rep (pe_lst (pa_cons pe_str pa_nil)) (pv 3)) (nomark _)) (pss_cons (ps_set (i := 6) sc_law_column.nd rfl (Or.inl rfl) (pe_call G_law_next (hr.mono (by decide)) rfl D_law_next.m D_law_next.fn.kp D_law_next.b .nil pass0 (pa_cons (pv 0) (pa_cons (pv 1) pa_nil))))
      (pss_one (ps_asg (pe_ix ix_str (pv 2) (pe_op op_mod (pe_op op_fdiv (pv 6) (pv 3)) (pe_callB (call_len) rfl T.z_len bo_len (pa_cons (pv 2) pa_nil))) (fun _ _ => rfl)) (pg_sub (pv 4) (pe_op op_mod (pv 6) (pv 3)) set_list)))) pss_nil)
      (pss_one (ps_ret (pv 4)))))), ?_⟩
    refine ⟨by show 0 ≤ sizeLine; decide, fun l hl => ?_⟩
    have nlt : l ≠ t := fun z => by rw [z, hC.at_] at hl; cases hl
    refine ⟨_, rfl, n, rfl, by omega, by omega, ?_⟩
    rw [show ((n : Nat) : Int).toNat = n by omega]
    refine for_range (lo := 0) (n := n) (fun i σ H2 => ∃ (cs : List Nat) (v5 v6 : Option V), σ = [some (.ref s), some (.ref t), some (.str x), some (.int n), some (.ref l), v5, v6] ∧ cs.length = i ∧ (∀ c ∈ cs, okX x c) ∧ H2 l = some (.lst (cs.map sg)) ∧ Same (Wo t H) (Wo t H2) ∧ H2 t = some (.lst [.int (k + (i : Int))])) ⟨[], _, _, rfl, rfl, fun c hc => (by cases hc), upd_same, by rw [Wo.upd_ne nlt]; exact Same.upd (Wo.free hl), by rw [upd_ne nlt.symm, hC.at_]; simp⟩ ?_ ?_
    · rintro i σ H2 hi ⟨cs, v5, v6, rfl, hcl, hok, hl2, w2, ht2⟩
      have C2 : Ctr K H2 s t ns (k + (i : Int)) := hC.off w2 ht2 (by omega)
      refine ⟨_, rfl, _, rfl, s, t, ns, _, rfl, C2, by omega, fun m hm hm2 => ?_⟩
      have hl3 : upd H2 t (.lst [.int (k + (i : Int) + 1)]) l = some (.lst (cs.map sg)) := by rw [upd_ne nlt]; exact hl2
      have w3 : Same (Wo t H) (Wo t (upd H2 t (.lst [.int (k + (i : Int) + 1)]))) := by rw [Wo.set]; exact w2
      have ht3 : upd H2 t (.lst [.int (k + (i : Int) + 1)]) t = some (.lst [.int (k + (i : Int) + 1)]) := upd_same
      generalize upd H2 t (.lst [.int (k + (i : Int) + 1)]) = H3 at hl3 w3 ht3 ⊢
      have fin : ∀ c : Nat, okX x c → ∃ (cs' : List Nat) (v5 v6 : Option V), [some (V.ref s), some (.ref t), some (.str x), some (.int n), some (.ref l), some (.int (0 + (i : Int))), some (.int m)] = [some (.ref s), some (.ref t), some (.str x), some (.int n), some (.ref l), v5, v6] ∧ cs'.length = i + 1 ∧ (∀ c ∈ cs', okX x c) ∧ upd H3 l (.lst (cs.map sg ++ [sg c])) l = some (.lst (cs'.map sg)) ∧ Same (Wo t H) (Wo t (upd H3 l (.lst (cs.map sg ++ [sg c])))) ∧ upd H3 l (.lst (cs.map sg ++ [sg c])) t = some (.lst [.int (k + ((i + 1 : Nat) : Int))]) := fun c hc => by
        refine ⟨cs ++ [c], _, _, rfl, by rw [List.length_append, hcl]; rfl, fun d hd => ?_, by rw [upd_same, List.map_append]; rfl, ?_, ?_⟩
        · rcases List.mem_append.mp hd with hd | hd
          · exact hok d hd
          · rw [List.mem_singleton.mp hd]; exact hc
        · rw [Wo.upd_ne nlt]
          exact Same.at w3 (Wo.free hl)
        · rw [upd_ne nlt.symm, ht3]
          simp only [Int.natCast_add, Int.natCast_one, Int.add_assoc]
      have hlen : (cs.map sg).length < sizeLine := by rw [List.length_map, hcl]; exact Nat.lt_of_lt_of_le (show i < 100 by omega) (by decide)
      refine ⟨_, rfl, _, _, rfl, rfl, (by show (0 : Int) < 3; decide), rfl, _, rfl, ?_⟩
      by_cases z : V.int (m % 3) = V.int 0
      · rw [decide_eq_true z]
        exact iteT ⟨_, rfl, .inl ⟨rfl, _, SqL.of hl3⟩, l, _, _, rfl, rfl, hl3, hlen, fin 45 okX.gap⟩
      · rw [decide_eq_false z]
        obtain ⟨c, hc, hs⟩ := pick (m / 3) (Int.ediv_nonneg hm (by decide))
        exact iteF ⟨_, rfl, .inl ⟨rfl, _, SqL.of hl3⟩, _, rfl, _, rfl, _, _, rfl, rfl, ⟨by decide, by decide⟩, _, rfl, _, _, rfl, ⟨hz, rfl⟩, _, _, rfl, rfl, (by show (0 : Int) < ((x.cps.size : Nat) : Int); omega), x, _, c, rfl, rfl, hz, hc, l, _, _, rfl, rfl, hl3, hlen, fin c (.of hs)⟩
    · rintro σ H2 ⟨cs, v5, v6, rfl, hcl, hok, hl2, w2, ht2⟩
      refine ⟨_, rfl, by show 1 ≤ sizeLine; decide, fun q hq => ?_⟩
      have s3 : Same H2 (upd H2 q (.lst [sg 45])) := Same.upd hq
      have hq3 : upd H2 q (.lst [sg 45]) q = some (.lst [sg 45]) := upd_same
      generalize hH3 : upd H2 q (.lst [sg 45]) = H3 at s3 hq3
      have hH3' : upd H2 q (.lst [V.str (Str.ofString "-")]) = H3 := hH3
      rw [hH3']
      refine ⟨_, rfl, q, _, _, rfl, rfl, hq3, by show (-(2 ^ 63) : Int) ≤ (n : Int); omega, by show (n : Int) < 2 ^ 63; omega, ?_, fun q2 hq2 => ?_⟩
      · show 1 * ((n : Nat) : Int).toNat ≤ sizeLine
        exact Nat.le_trans (show _ ≤ 100 by omega) (by decide)
      rw [rep_flat, show ((n : Nat) : Int).toNat = n by omega]
      have s4 : Same H3 (upd H3 q2 (.lst (List.replicate n (sg 45)))) := Same.upd hq2
      have hq4 : upd H3 q2 (.lst (List.replicate n (sg 45))) q2 = some (.lst (List.replicate n (sg 45))) := upd_same
      generalize upd H3 q2 (.lst (List.replicate n (sg 45))) = H4 at s4 hq4 ⊢
      have s24 := s3.trans s4
      have hl4 := s24 _ _ hl2
      have ht4 := s24 _ _ ht2
      have w4 : Same (Wo t H) (Wo t H4) := w2.trans (Wo.same s24)
      have fr : (List.replicate n (sg 45)).all flatV = true := List.all_eq_true.mpr fun y hy => by rw [List.eq_of_mem_replicate hy]; rfl
      refine ⟨l, q2, _, _, rfl, rfl, SqL.of hl4, SqL.of hq4, by rw [List.length_map, List.length_replicate, hcl], by rw [sg_strs]; exact flat_strs, fr, _, rfl, ?_⟩
      cases z : tupEq (cs.map sg) (List.replicate n (sg 45)) with
      | false =>
        refine iteF ⟨_, rfl, kk l cs (k + (n : Int)) H4 hcl hok (not_all hcl z) hl4 hl w4 ht4 (by omega) (by omega)⟩
      | true =>
        have C4 : Ctr K H4 s t ns (k + (n : Int)) := hC.off w4 ht4 (by omega)
        refine iteT ⟨_, rfl, _, rfl, s, t, ns, _, rfl, C4, by omega, fun m hm hm2 => ?_⟩
        have hl5 : upd H4 t (.lst [.int (k + (n : Int) + 1)]) l = some (.lst (cs.map sg)) := by rw [upd_ne nlt]; exact hl4
        have w5 : Same (Wo t H) (Wo t (upd H4 t (.lst [.int (k + (n : Int) + 1)]))) := by rw [Wo.set]; exact w4
        have ht5 : upd H4 t (.lst [.int (k + (n : Int) + 1)]) t = some (.lst [.int (k + (n : Int) + 1)]) := upd_same
        generalize upd H4 t (.lst [.int (k + (n : Int) + 1)]) = H5 at hl5 w5 ht5 ⊢
        obtain ⟨c, hc, hs⟩ := pick (m / (n : Int)) (Int.ediv_nonneg hm (by omega))
        have i1 := Int.emod_nonneg m (show (n : Int) ≠ 0 by omega)
        have i2 := Int.emod_lt_of_pos m (show (0 : Int) < (n : Int) by omega)
        obtain ⟨j, hj⟩ : ∃ j : Nat, m % (n : Int) = (j : Int) := ⟨_, (Int.toNat_of_nonneg i1).symm⟩
        have hjl : j < cs.length := by omega
        refine ⟨_, rfl, _, rfl, _, rfl, _, _, rfl, rfl, ?_, _, rfl, _, _, rfl, ⟨hz, rfl⟩, _, _, rfl, rfl, (by show (0 : Int) < ((x.cps.size : Nat) : Int); omega), x, _, c, rfl, rfl, hz, hc, _, rfl, _, rfl, _, rfl, _, _, rfl, rfl, (by show (0 : Int) < (n : Int); omega), l, _, _, j, rfl, rfl, hl5, ?_, ?_⟩
        · exact ⟨by omega, by omega⟩
        · rw [hj, List.length_map]
          show (if (0 : Int) ≤ (j : Int) then (if (j : Int) < (cs.length : Int) then some (j : Int).toNat else none) else _) = some j
          rw [if_pos (by omega), if_pos (by omega), Int.toNat_natCast]
        · have e : (cs.map sg).set j (sg c) = (cs.set j c).map sg := by rw [List.map_set]
          rw [e]
          refine ⟨_, rfl, kk l (cs.set j c) (k + (n : Int) + 1) _ (by rw [List.length_set]; exact hcl) (fun d hd => ?_) ⟨c, List.mem_set hjl c, sign_ne hs.1⟩ upd_same hl ?_ ?_ (by omega) (by omega)⟩
          · rcases List.mem_or_eq_of_mem_set hd with hd | hd
            · exact hok d hd
            · rw [hd]; exact .of hs
          · rw [Wo.upd_ne nlt]
            exact Same.at w5 (Wo.free hl)
          · rw [upd_ne nlt.symm]
            exact ht5
theorem ok_law_rows {f_law_rows f_law_column : Addr} {fd_law_rows fd_law_column : FuncData} {p : Pm} (T : Txt K mg p) (D_law_rows : Dn K mg "_law_rows" s_law_rows ["_law_script", "_law_at", "_law_signs_here", "_law_many", "_law_columns"] f_law_rows fd_law_rows) (D_law_column : Dn K mg "_law_column" s_law_column ["_law_script", "_law_at", "_law_signs_here", "_law_many"] f_law_column fd_law_column) (G_law_column : FnOk P w K mg base CX0 2 f_law_column fd_law_column ["_law_script", "_law_at", "_law_signs_here", "_law_many"] (spColC K)) : FnOk P w K mg base CX0 3 f_law_rows fd_law_rows ["_law_script", "_law_at", "_law_signs_here", "_law_many", "_law_columns"] (spRowsC K) := by
  refine D_law_rows.fn.ok sc_law_rows (fun vs H Q E h => ?_) (fun cdv A outer s H vs Q E hr h => ?_)
  · obtain ⟨s, t, ns, k, x, n, m, rfl, _⟩ := h
    rfl
  · obtain ⟨s, t, ns, k, x, n, m, rfl, hC, hk, hn0, hn, hm, hx0, hx, hxs, kk⟩ := h
    have k0 := hC.k0
    refine ⟨_, (pss_cons (ps_set (i := 5) sc_law_rows.nd rfl (Or.inr rfl) (pe_op op_rep (pe_lst (pa_cons pe_str pa_nil)) (pv 3)))
      (pss_cons (ps_for PassesOwn.never rfl (pi_range1 rfl T.z_range (pa_cons (pv 4) pa_nil)) (pg_name (i := 6) sc_law_rows.nd rfl (Or.inl rfl)) (pss_cons (ps_set (i := 7) sc_law_rows.nd rfl (Or.inr rfl) (pe_call G_law_column (hr.mono (by decide)) rfl D_law_column.m D_law_column.fn.kp D_law_column.b .nil pass0 (pa_cons (pv 0) (pa_cons (pv 1) (pa_cons (pv 2) (pa_cons (pv 3) pa_nil))))))
      (pss_one (ps_set (i := 5) sc_law_rows.nd rfl (Or.inr rfl) (pe_comp (N := ["_law_r", "_law_rows_here", "_law_column_here"]) rfl (CompSc.freeB (nt := 1) (ix := [5, 7]) rfl (by decide +kernel) (by decide +kernel) (by kernel_rfl) rfl (by kernel_rfl)) (pi_range1 rfl T.z_range (pa_cons (pv 3) pa_nil)) (fun _ _ _ _ _ _ _ => (pg_name (i := 0) (show (["_law_r", "_law_rows_here", "_law_column_here"] : List Str).Nodup by decide +kernel) rfl (Or.inl rfl))) (fun _ _ _ _ _ _ _ => (pe_op op_add_str (pe_ix (ix_listK (K' := K) rfl) (pv 1) (pv 0) (fun _ _ => rfl)) (pe_ix (ix_listK (K' := K) rfl) (pv 2) (pv 0) (fun _ _ => rfl)))))))))
      (pss_one (ps_ret (pv 5))))), ?_⟩
    refine ⟨by show 1 ≤ sizeLine; decide, fun q hq => ?_⟩
    have s1 : Same H (upd H q (.lst [.str ⟨#[]⟩])) := Same.upd hq
    have hq1 : upd H q (.lst [.str ⟨#[]⟩]) q = some (.lst [.str ⟨#[]⟩]) := upd_same
    generalize hH1 : upd H q (.lst [.str ⟨#[]⟩]) = H1 at s1 hq1
    have hH1' : upd H q (.lst [V.str (Str.ofString "")]) = H1 := hH1
    rw [hH1']
    refine ⟨_, rfl, q, _, _, rfl, rfl, hq1, by show (-(2 ^ 63) : Int) ≤ (n : Int); omega, by show (n : Int) < 2 ^ 63; omega, ?_, fun l0 hl0 => ?_⟩
    · show 1 * ((n : Nat) : Int).toNat ≤ sizeLine
      exact Nat.le_trans (show _ ≤ 100 by omega) (by decide)
    rw [rep_flat, show ((n : Nat) : Int).toNat = n by omega]
    have s2 : Same H1 (upd H1 l0 (.lst (List.replicate n (.str ⟨#[]⟩)))) := Same.upd hl0
    have hl2 : upd H1 l0 (.lst (List.replicate n (.str ⟨#[]⟩))) l0 = some (.lst (List.replicate n (.str ⟨#[]⟩))) := upd_same
    generalize upd H1 l0 (.lst (List.replicate n (.str ⟨#[]⟩))) = H2 at s2 hl2 ⊢
    have s02 := s1.trans s2
    refine ⟨_, rfl, m, rfl, by omega, by omega, ?_⟩
    rw [show ((m : Nat) : Int).toNat = m by omega]
    have r0 : RsOk (List.replicate n (⟨#[]⟩ : Str)) n 0 := ⟨List.length_replicate, fun r hr => (by rw [List.eq_of_mem_replicate hr]; rfl), fun r hr c hc => (by rw [List.eq_of_mem_replicate hr] at hc; cases hc), fun j hj => (by omega)⟩
    refine for_range (lo := 0) (n := m) (fun i σ H3 => ∃ (l : Addr) (rs : List Str) (k' : Int) (v6 v7 : Option V), σ = [some (.ref s), some (.ref t), some (.str x), some (.int n), some (.int m), some (.ref l), v6, v7] ∧ RsOk rs n i ∧ (∀ r ∈ rs, Of (knS x) r) ∧ H3 l = some (.lst (rs.map V.str)) ∧ H l = none ∧ Same (Wo t H) (Wo t H3) ∧ H3 t = some (.lst [.int k']) ∧ k ≤ k' ∧ k' ≤ k + 20 * (i : Int)) ⟨l0, _, k, _, _, rfl, r0, (fun r hr c hc => (by rw [List.eq_of_mem_replicate hr] at hc; cases hc)), by rw [hl2, List.map_replicate], s1.free hl0, Wo.same s02, s02 _ _ hC.at_, by omega, by omega⟩ ?_ ?_
    · rintro i σ H3 hi ⟨l, rs, k', v6, v7, rfl, hR, hO, hl3, hln, w3, ht3, kb1, kb2⟩
      have C3 : Ctr K H3 s t ns k' := hC.off w3 ht3 (by omega)
      refine ⟨_, rfl, _, rfl, _, rfl, _, rfl, s, t, ns, k', x, n, rfl, C3, by omega, hn0, hn, hx0, hx, hxs, fun lc cs k2 H4 hcl hok hg hlc hlcn w4 ht4 kb3 kb4 => ?_⟩
      have nlt : l ≠ t := fun z => by rw [z, hC.at_] at hln; cases hln
      have hl4 : H4 l = some (.lst (rs.map V.str)) := Wo.sub _ _ (w4 _ _ (Wo.in nlt hl3))
      refine ⟨_, rfl, n, rfl, by omega, by omega, fun l2 hl2n => ?_⟩
      refine cm_map n (fun r => V.str (rs.getD r ⟨#[]⟩ ++ ⟨#[cs.getD r 0]⟩)) hl2n (Nat.lt_of_le_of_lt hn (by decide)) (fun r H5 s5 hr => ?_) (fun H5 s5 => ?_) (fun r y H5 H6 R s5 hr hy hRR => ?_) fun H5 s5 hl5 => ?_
      · show r < ((n : Nat) : Int).toNat
        omega
      · show ((n : Nat) : Int).toNat ≤ n
        omega
      · obtain ⟨rfl, rfl⟩ := hy
        have h1 : r < rs.length := by rw [hR.len]; exact hr
        have h2 : r < cs.length := by rw [hcl]; exact hr
        have e1 := List.getElem?_eq_getElem h1
        have e2 := List.getElem?_eq_getElem h2
        refine ⟨Kp.set0, ?_⟩
        refine ⟨_, rfl, _, rfl, l, _, _, .str rs[r], rfl, rfl, SqL.of (s5 _ _ hl4), ?_, _, rfl, _, rfl, lc, _, _, sg cs[r], rfl, rfl, SqL.of (s5 _ _ hlc), ?_, _, _, rfl, rfl, ?_, ?_⟩
        · rw [Int.zero_add]; exact atI_nat (by rw [List.getElem?_map, e1]; rfl)
        · rw [Int.zero_add]; exact atI_nat (by rw [List.getElem?_map, e2]; rfl)
        · show rs[r].cps.size + 1 ≤ sizeLine
          rw [hR.wid _ (List.getElem_mem h1)]
          exact Nat.le_trans (show i + 1 ≤ 100 by omega) (by decide)
        · rw [getD_of e1, getD_of e2] at hRR
          exact hRR _ (Same.refl _)
      · refine ⟨l2, grown rs cs n, k2, _, _, rfl, hR.next hcl (fun c hc => (hok c hc).1) hg, grown_of hR.len hcl hO (fun c hc => (hok c hc).2), ?_, ?_, (w3.trans w4).trans (Wo.same s5), s5 _ _ ht4, by omega, by omega⟩
        · rw [hl5]
          unfold grown
          rw [List.map_map]
          rfl
        · exact Wo.back (w3.trans w4) ht4 hl2n
    · rintro σ H3 ⟨l, rs, k', v6, v7, rfl, hR, hO, hl3, hln, w3, ht3, kb1, kb2⟩
      exact ⟨_, rfl, kk l rs k' H3 hR hO hl3 hln w3 ht3 kb1 (by omega)⟩
end
section
variable {P : Program} {w : World} {K : PySem.W.Frag} {mg : Str → Option Value} {base : Heap}
theorem ok_law_round {f_law_round f_law_next f_law_signs f_law_prices f_law_rows f_law_cost f_Block___init__ f_block_cost f_law_is_cost f_law_with f_law_refused f_law_strange : Addr} {fd_law_round fd_law_next fd_law_signs fd_law_prices fd_law_rows fd_law_cost fd_Block___init__ fd_block_cost fd_law_is_cost fd_law_with fd_law_refused fd_law_strange : FuncData} {p : Pm} (T : Txt K mg p) (D_law_round : Dn K mg "_law_round" s_law_round ["_law_script", "_law_at"] f_law_round fd_law_round) (D_law_next : Dn K mg "_law_next" s_law_next ["_law_script", "_law_at"] f_law_next fd_law_next) (G_law_next : FnOk P w K mg base CX0 1 f_law_next fd_law_next ["_law_script", "_law_at"] (spNext K)) (D_law_signs : Dn K mg "_law_signs" s_law_signs ["_law_script", "_law_at", "_law_many"] f_law_signs fd_law_signs) (G_law_signs : FnOk P w K mg base CX0 2 f_law_signs fd_law_signs ["_law_script", "_law_at", "_law_many"] (spSignsC K)) (D_law_prices : Dn K mg "_law_prices" s_law_prices ["_law_script", "_law_at", "_law_signs_here", "_law_same"] f_law_prices fd_law_prices) (G_law_prices : FnOk P w K mg base CX0 7 f_law_prices fd_law_prices ["_law_script", "_law_at", "_law_signs_here", "_law_same"] (spPricesC K p.C_Prices)) (D_law_rows : Dn K mg "_law_rows" s_law_rows ["_law_script", "_law_at", "_law_signs_here", "_law_many", "_law_columns"] f_law_rows fd_law_rows) (G_law_rows : FnOk P w K mg base CX0 3 f_law_rows fd_law_rows ["_law_script", "_law_at", "_law_signs_here", "_law_many", "_law_columns"] (spRowsC K)) (D_law_cost : Dn K mg "_law_cost" s_law_cost ["_law_prices_here", "_law_rows_here"] f_law_cost fd_law_cost) (G_law_cost : FnOk P w K mg base CX0 4 f_law_cost fd_law_cost ["_law_prices_here", "_law_rows_here"] (spCostC K p.C_Prices)) (D_Block___init__ : Dm K "__init__" "Block.__init__" s_Block___init__ ["self", "rows"] f_Block___init__ fd_Block___init__) (M_Block : Mk K p.C_Block f_Block___init__) (G_Block___init__ : FnOk P w K mg base CX0 5 f_Block___init__ fd_Block___init__ ["self", "rows"] (nv (spBlock K p.C_Block p.C_NoBlock))) (D_block_cost : Dn K mg "block_cost" s_block_cost ["prices", "block"] f_block_cost fd_block_cost) (G_block_cost : FnOk P w K mg base CX0 6 f_block_cost fd_block_cost ["prices", "block"] (nv (spBlkCost K p.C_Prices p.C_Block p.C_NoSign))) (D_law_is_cost : Dn K mg "_law_is_cost" s_law_is_cost ["_law_prices_here", "_law_found", "_law_units"] f_law_is_cost fd_law_is_cost) (G_law_is_cost : FnOk P w K mg base CX0 3 f_law_is_cost fd_law_is_cost ["_law_prices_here", "_law_found", "_law_units"] (spIsCost K p.C_Prices)) (D_law_with : Dn K mg "_law_with" s_law_with ["_law_row", "_law_k", "_law_thing_here"] f_law_with fd_law_with) (G_law_with : FnOk P w K mg base CX0 1 f_law_with fd_law_with ["_law_row", "_law_k", "_law_thing_here"] spWith) (D_law_refused : Dn K mg "_law_refused" s_law_refused ["_law_prices_here", "_law_rows_here"] f_law_refused fd_law_refused) (G_law_refused : FnOk P w K mg base CX0 9 f_law_refused fd_law_refused ["_law_prices_here", "_law_rows_here"] (spRefC K p.C_Prices)) (D_law_strange : Dn K mg "_law_strange" s_law_strange ["_law_rows_here", "_law_signs_here"] f_law_strange fd_law_strange) (G_law_strange : FnOk P w K mg base CX0 1 f_law_strange fd_law_strange ["_law_rows_here", "_law_signs_here"] (spStrC K)) : FnOk P w K mg base CX0 10 f_law_round fd_law_round ["_law_script", "_law_at"] (spRound K) := by
  refine D_law_round.fn.ok sc_law_round (fun vs H Q E h => ?_) (fun cdv A outer s H vs Q E hr h => ?_)
  · obtain ⟨s, t, ns, k, rfl, _⟩ := h
    rfl
  · obtain ⟨s, t, ns, k, rfl, hC, hk, kk⟩ := h
    have k0 := hC.k0
    refine ⟨_, (pss_cons (ps_set (i := 2) sc_law_round.nd rfl (Or.inl rfl) (pe_call G_law_next (hr.mono (by decide)) rfl D_law_next.m D_law_next.fn.kp D_law_next.b .nil pass0 (pa_cons (pv 0) (pa_cons (pv 1) pa_nil))))
      (pss_cons (ps_set (i := 3) sc_law_round.nd rfl (Or.inl rfl) (pe_op op_add pe_int (pe_op op_mod (pv 2) pe_int)))
      (pss_cons (ps_set (i := 4) sc_law_round.nd rfl (Or.inl rfl) (pe_call G_law_signs (hr.mono (by decide)) rfl D_law_signs.m D_law_signs.fn.kp D_law_signs.b .nil pass0 (pa_cons (pv 0) (pa_cons (pv 1) (pa_cons (pe_op op_add (pv 3) pe_int) pa_nil)))))
      (pss_mid (ps_set (i := 5) sc_law_round.nd rfl (Or.inl rfl) (pe_slice sl_str (pv 4) po_none (po_some (pv 3))))
      (pss_mid (ps_set (i := 6) sc_law_round.nd rfl (Or.inl rfl) (pe_call G_law_prices (hr.mono (by decide)) rfl D_law_prices.m D_law_prices.fn.kp D_law_prices.b .nil pass0 (pa_cons (pv 0) (pa_cons (pv 1) (pa_cons (pv 5) (pa_cons (pe_cmpR op_eq (pe_op op_mod (pe_op op_fdiv (pv 2) pe_int) pe_int) pe_int (nomark _)) pa_nil))))))
      (pss_mid (ps_set (i := 7) sc_law_round.nd rfl (Or.inl rfl) (pe_call G_law_rows (hr.mono (by decide)) rfl D_law_rows.m D_law_rows.fn.kp D_law_rows.b .nil pass0 (pa_cons (pv 0) (pa_cons (pv 1) (pa_cons (pv 5) (pa_cons (pe_op op_add pe_int (pe_op op_mod (pe_op op_fdiv (pv 2) pe_int) pe_int)) (pa_cons (pe_op op_add (pe_op op_mod (pe_op op_fdiv (pv 2) pe_int) pe_int) (pe_op op_fdiv (pe_callB (call_len) rfl T.z_len bo_len (pa_cons (pe_slice sl_list (pv 0) po_none (po_some pe_int)) pa_nil)) pe_int)) pa_nil)))))))
      (pss_cons (ps_set (i := 8) sc_law_round.nd rfl (Or.inl rfl) (pe_call G_law_cost (hr.mono (by decide)) rfl D_law_cost.m D_law_cost.fn.kp D_law_cost.b .nil pass0 (pa_cons (pv 6) (pa_cons (pv 7) pa_nil))))
      (pss_mid (ps_set (i := 9) sc_law_round.nd rfl (Or.inl rfl) (pe_make M_Block G_Block___init__ (hr.mono (by decide)) rfl T.mg_Block D_Block___init__.b .nil pass0 (pa_cons (pv 7) pa_nil)))
      (pss_mid (ps_if (pt_not (pt_val (pe_call G_law_is_cost (hr.mono (by decide)) rfl D_law_is_cost.m D_law_is_cost.fn.kp D_law_is_cost.b .nil pass0 (pa_cons (pv 6) (pa_cons (pe_call G_block_cost (hr.mono (by decide)) rfl D_block_cost.m D_block_cost.fn.kp D_block_cost.b .nil pass0 (pa_cons (pv 6) (pa_cons (pv 9) pa_nil))) (pa_cons (pv 8) pa_nil)))))) (pss_one (ps_ret pe_bl)) pss_nil)
      (pss_mid (ps_if (pt_cmpR op_gt (pe_callB (call_len) rfl T.z_len bo_len (pa_cons (pe_ix ix_list (pv 7) pe_int (fun _ _ => rfl)) pa_nil)) pe_int (nomark _)) (pss_cons (ps_for PassesOwn.never rfl (pi_range1 rfl T.z_range (pa_cons (pe_op op_add pe_int (pe_op op_mod (pe_op op_fdiv (pv 2) pe_int) pe_int)) pa_nil)) (pg_name (i := 10) sc_law_round.nd rfl (Or.inl rfl)) (pss_cons (ps_set (i := 11) sc_law_round.nd rfl (Or.inl rfl) (pe_call G_law_next (hr.mono (by decide)) rfl D_law_next.m D_law_next.fn.kp D_law_next.b .nil pass0 (pa_cons (pv 0) (pa_cons (pv 1) pa_nil))))
      (pss_cons (ps_set (i := 12) sc_law_round.nd rfl (Or.inl rfl) (pe_op op_mod (pv 11) (pe_callB (call_len) rfl T.z_len bo_len (pa_cons (pv 7) pa_nil))))
      (pss_mid (ps_set (i := 13) sc_law_round.nd rfl (Or.inl rfl) (pe_op op_mod (pe_op op_fdiv (pv 11) pe_int) (pe_callB (call_len) rfl T.z_len bo_len (pa_cons (pe_ix ix_list (pv 7) pe_int (fun _ _ => rfl)) pa_nil))))
      (pss_one (ps_asg (pe_call G_law_with (hr.mono (by decide)) rfl D_law_with.m D_law_with.fn.kp D_law_with.b .nil pass0 (pa_cons (pe_ix ix_list (pv 7) (pv 12) (fun _ _ => rfl)) (pa_cons (pv 13) (pa_cons (pe_ix ix_str (pv 4) (pe_op op_add (pv 3) (pe_op op_mod (pe_op op_fdiv (pv 11) pe_int) pe_int)) (fun _ _ => rfl)) pa_nil)))) (pg_sub (pv 7) (pv 12) set_list)))))))
      (pss_one (ps_if (pt_cmpR (op_neT (Nat.lt_of_succ_lt (hu_of hr))) (pe_call G_law_refused (hr.mono (by decide)) rfl D_law_refused.m D_law_refused.fn.kp D_law_refused.b .nil pass0 (pa_cons (pv 6) (pa_cons (pv 7) pa_nil))) (pe_call G_law_strange (hr.mono (by decide)) rfl D_law_strange.m D_law_strange.fn.kp D_law_strange.b .nil pass0 (pa_cons (pv 7) (pa_cons (pv 5) pa_nil))) (nomark _)) (pss_one (ps_ret pe_bl)) pss_nil))) pss_nil)
      (pss_one (ps_ret (pe_call G_law_is_cost (hr.mono (by decide)) rfl D_law_is_cost.m D_law_is_cost.fn.kp D_law_is_cost.b .nil pass0 (pa_cons (pv 6) (pa_cons (pe_call G_block_cost (hr.mono (by decide)) rfl D_block_cost.m D_block_cost.fn.kp D_block_cost.b .nil pass0 (pa_cons (pv 6) (pa_cons (pv 9) pa_nil))) (pa_cons (pv 8) pa_nil)))))))))))))))), ?_⟩
    refine ⟨_, rfl, _, rfl, s, t, ns, k, rfl, hC, by omega, fun m hm hm2 => ?_⟩
    have C1 : Ctr K (upd H t (.lst [.int (k + 1)])) s t ns (k + 1) := hC.step (by omega)
    have w1 : Same (Wo t H) (Wo t (upd H t (.lst [.int (k + 1)]))) := by rw [Wo.set]; exact Same.refl _
    generalize upd H t (.lst [.int (k + 1)]) = H1 at C1 w1 ⊢
    -- many, some
    have m1 := Int.emod_nonneg m (show (4 : Int) ≠ 0 by decide)
    have m2 := Int.emod_lt_of_pos m (show (0 : Int) < 4 by decide)
    obtain ⟨ng, hng⟩ : ∃ ng : Nat, 1 + m % 4 = (ng : Int) := ⟨(1 + m % 4).toNat, by omega⟩
    refine ⟨_, rfl, _, _, rfl, rfl, (by show (0 : Int) < 4; decide), _, _, rfl, rfl, ?_⟩
    refine ⟨_, rfl, _, rfl, _, rfl, _, _, rfl, rfl, s, t, ns, k + 1, ng + 2, ?_, C1, by omega, by omega, fun S H2 hS hSs hSn s2 => ?_⟩
    · show [V.ref s, .ref t, .int (1 + m % 4 + 2)] = [V.ref s, .ref t, .int ((ng + 2 : Nat) : Int)]
      rw [hng]
      rfl
    have w2 := Wo.step s2
    have ht2 := s2 _ _ upd_same
    have C2 : Ctr K H2 s t ns (k + 1 + 1) := C1.off w2 ht2 (by omega)
    have hzS : S.length ≤ sizeLine := Nat.le_trans (show S.cps.size ≤ 100 by omega) (by decide)
    -- signs_here
    refine ⟨fun σ' H' => H' = H2 ∧ ∃ sg : Str, sg.cps.toList = S.cps.toList.take ng ∧ σ' = [some (.ref s), some (.ref t), some (.int m), some (.int (ng : Int)), some (.str S), some (.str sg), none, none, none, none, none, none, none, none], ?_, ?_⟩
    · refine ⟨_, rfl, _, rfl, _, rfl, S, rfl, hzS, rfl, _, ?_, by rw [← hng]; rfl⟩
      rw [hng]
      exact slice_up S ng
    rintro σ' H3 ⟨rfl, sg, hsg, rfl⟩
    have hsz : sg.cps.size = ng := by rw [← Array.length_toList, hsg, List.length_take, Array.length_toList]; omega
    have hsig : ∀ c ∈ sg.cps.toList, isSignN c = true := fun c hc => hSs c (by rw [hsg] at hc; exact List.mem_of_mem_take hc)
    have hSg : Signs sg := ⟨by omega, by omega, hsig, by rw [hsg]; exact List.Nodup.sublist (List.take_sublist _ _) hSn⟩
    -- prices
    refine ⟨fun σ' H' => ∃ x k3 rows fo fm, PrAt K p.C_Prices (Wo t H') x sg rows fo fm ∧ Same (Wo t H) (Wo t H') ∧ H' t = some (.lst [.int k3]) ∧ k ≤ k3 ∧ k3 ≤ k + 300 ∧ σ' = [some (.ref s), some (.ref t), some (.int m), some (.int (ng : Int)), some (.str S), some (.str sg), some (.ref x), none, none, none, none, none, none, none], ?_, ?_⟩
    · refine ⟨_, rfl, _, rfl, _, rfl, _, rfl, _, _, rfl, rfl, ⟨by decide, by decide⟩, _, _, rfl, rfl, (by show (0 : Int) < 3; decide), rfl, s, t, ns, k + 1 + 1, sg, _, rfl, C2, by omega, hSg, by omega, fun x H' k' rows fo fm hP hxn w3 ht3 b1 b2 => ?_⟩
      exact ⟨x, k', rows, fo, fm, hP, (w1.trans w2).trans w3, ht3, by omega, by omega, rfl⟩
    rintro σ' H4 ⟨x, k3, rows, fo, fm, hP, w4, ht4, b1, b2, rfl⟩
    have C4 : Ctr K H4 s t ns k3 := hC.off w4 ht4 (by omega)
    -- rows
    obtain ⟨n, hn⟩ : ∃ n : Nat, 1 + m / 12 % 5 = (n : Int) := ⟨(1 + m / 12 % 5).toNat, by omega⟩
    refine ⟨fun σ' H' => ∃ (a : Addr) (rs : List Str) (k' : Int) (wd : Nat), wd ≤ 50 ∧ RsOk rs n wd ∧ (∀ r ∈ rs, Of (knS sg) r) ∧ H' a = some (.lst (rs.map V.str)) ∧ a ≠ t ∧ PrAt K p.C_Prices (Wo a (Wo t H')) x sg rows fo fm ∧ Same (Wo t H) (Wo a (Wo t H')) ∧ H' t = some (.lst [.int k']) ∧ k ≤ k' ∧ k' ≤ k + 1500 ∧ σ' = [some (.ref s), some (.ref t), some (.int m), some (.int (ng : Int)), some (.str S), some (.str sg), some (.ref x), some (.ref a), none, none, none, none, none, none], ?_, ?_⟩
    · have hcl := cutV_length (ns.map V.int) none (some 50)
      rw [List.length_map] at hcl
      have hns := hC.len
      obtain ⟨wd, hwd⟩ : ∃ wd : Nat, m / 60 % 4 + (((cutV (ns.map V.int) none (some 50)).length : Nat) : Int) / 7 = (wd : Int) := ⟨(m / 60 % 4 + (((cutV (ns.map V.int) none (some 50)).length : Nat) : Int) / 7).toNat, by omega⟩
      refine ⟨_, rfl, _, rfl, _, rfl, _, rfl, _, _, rfl, rfl, ⟨by decide, by decide⟩, _, _, rfl, rfl, (by show (0 : Int) < 5; decide), _, _, rfl, rfl, ?_⟩
      refine ⟨_, rfl, _, _, rfl, rfl, ⟨by decide, by decide⟩, _, _, rfl, rfl, (by show (0 : Int) < 4; decide), _, rfl, _, rfl, s, _, rfl, C4.scr, fun p1 hp1 => ⟨_, _, rfl, .inl ⟨_, SqL.of upd_same, rfl⟩, _, _, rfl, rfl, ⟨by decide, by decide⟩, _, _, rfl, rfl, s, t, ns, k3, sg, n, wd, ?_, C4.same (Same.upd hp1), by omega, by omega, by omega, by omega, by omega, by omega, hsig, fun l rs k' H' hR hO hl hln w5 ht5 c1 c2 => ?_⟩⟩
      · show [V.ref s, .ref t, .str sg, .int (1 + m / 12 % 5), .int (m / 60 % 4 + (((cutV (ns.map V.int) none (some 50)).length : Nat) : Int) / 7)] = _
        rw [hn, hwd]
      · have hl4 : H4 l = none := (Same.upd hp1).free hln
        have nlt : l ≠ t := fun z => by rw [z, ht4] at hl4; cases hl4
        have w6 : Same (Wo t H4) (Wo l (Wo t H')) := fun b u e => Wo.in (fun z => by rw [z, Wo.free hl4] at e; cases e) (w5 _ _ (Wo.same (Same.upd hp1) b u e))
        exact ⟨l, rs, k', wd, by omega, hR, hO, hl, nlt, hP.same w6, w4.trans w6, ht5, by omega, by omega, rfl⟩
    rintro σ' H5 ⟨a, rs, k5, wd, hwd, hR, hO, ha, nat_, hP5, w5, ht5, b3, b4, rfl⟩
    have hn0 : 0 < n := by omega
    have hn5 : n ≤ 5 := by omega
    have hok := hR.block hn0
    have hwid := hR.w hn0
    have hl := hR.len
    have hS : SmR rs := ⟨by omega, fun r hr => by rw [hR.wid r hr]; omega⟩
    -- units
    refine ⟨_, rfl, _, rfl, x, a, sg, rows, fo, fm, rs, rfl, (hP5.same Wo.sub).same Wo.sub, SqL.of ha, hS, hR.lenB hn0, hO, fun H6 s6 => ?_⟩
    obtain ⟨U, hU⟩ : ∃ U, U = blkC (tcF sg rows fo fm) rs := ⟨_, rfl⟩
    rw [← hU]
    have ha6 := s6 _ _ ha
    have ht6 := s6 _ _ ht5
    -- block
    refine ⟨fun σ' H' => ∃ o, St41 K p.C_Prices p.C_Block H H' t a x o k5 sg rows fo fm rs rs ∧ σ' = [some (.ref s), some (.ref t), some (.int m), some (.int (ng : Int)), some (.str S), some (.str sg), some (.ref x), some (.ref a), some (.int U), some (.ref o), none, none, none, none], ?_, ?_⟩
    · refine ⟨_, rfl, fun o dx ho hdx ndx => ?_⟩
      have s7 : Same H6 (upd (upd H6 dx (.own o)) o (.ins p.C_Block dx [])) := Same.at (Same.upd hdx) ho
      refine ⟨o, dx, _, rs, rfl, upd_same, ⟨a, rfl, .inl (SqL.of (s7 _ _ ha6))⟩, hS, fun _ H8 q1 q2 => ⟨rfl, ?_⟩, fun z => (by rw [hok] at z; cases z)⟩
      have g2 : Same H6 H8 := fun c u hc => q1 _ _ (s7 _ _ hc) (fun z => by rw [z, ho] at hc; cases hc)
      have s8 := s6.trans g2
      have ha8 := g2 _ _ ha6
      have ht8 := g2 _ _ ht6
      exact ⟨o, ⟨nat_, ha8, ht8, hP5.same (Wo.same (Wo.same s8)), (q2.wo ht8).wo (Wo.in nat_ ha8), w5.trans (Wo.same (Wo.same s8))⟩, rfl⟩
    rintro σ' H7 ⟨o, I7, rfl⟩
    have cost : ∀ {H' : Hp} {k' : Int} {rs' : List Str} {R : VK}, St41 K p.C_Prices p.C_Block H H' t a x o k' sg rows fo fm rs rs' → (∀ q H2, Same H' H2 → H2 q = some (.tup [.int (loF (U, unitOf fo.2 fm.2 rows)).1, .int (loF (U, unitOf fo.2 fm.2 rows)).2]) → R (.ref q) H2) → nv (spBlkCost K p.C_Prices p.C_Block p.C_NoSign) [.ref x, .ref o] H' R E0 := fun {H' k' rs' R} I hR' =>
      ⟨x, o, sg, rows, fo, fm, rs, rfl, I.prH, I.blkH, hS, hR.lenB hn0, fun _ q H2 s2 _ hq => hR' q H2 s2 (by rw [hU]; exact hq), fun i j hB => absurd hO hB.no⟩
    -- the cost
    refine ⟨fun σ' H' => St41 K p.C_Prices p.C_Block H H' t a x o k5 sg rows fo fm rs rs ∧ σ' = [some (.ref s), some (.ref t), some (.int m), some (.int (ng : Int)), some (.str S), some (.str sg), some (.ref x), some (.ref a), some (.int U), some (.ref o), none, none, none, none], ?_, ?_⟩
    · refine ⟨_, rfl, _, rfl, _, rfl, cost I7 fun q H8 s8 hq => ?_⟩
      refine ⟨_, rfl, x, q, sg, rows, fo, fm, U, rfl, (I7.same s8).prH, hq, fun H9 s9 => ⟨_, rfl, iteNT ⟨I7.same (s8.trans s9), rfl⟩⟩⟩
    rintro σ' H8 ⟨I8, rfl⟩
    -- strange things
    refine ⟨fun σ' H' => ∃ k' rs' v10 v11 v12 v13, St41 K p.C_Prices p.C_Block H H' t a x o k' sg rows fo fm rs rs' ∧ k ≤ k' ∧ k' ≤ k + 1510 ∧ σ' = [some (.ref s), some (.ref t), some (.int m), some (.int (ng : Int)), some (.str S), some (.str sg), some (.ref x), some (.ref a), some (.int U), some (.ref o), v10, v11, v12, v13], ?_, ?_⟩
    · have row0 : ∀ {rs' : List Str}, RsOk rs' n wd → ∃ r0, rs'[0]? = some r0 ∧ r0.cps.size = wd := fun {rs'} h => by
        have h0 : 0 < rs'.length := by rw [h.len]; exact hn0
        exact ⟨_, List.getElem?_eq_getElem h0, h.wid _ (List.getElem_mem h0)⟩
      obtain ⟨r0, hr0, hw0⟩ := row0 hR
      refine ⟨_, rfl, a, _, _, .str r0, rfl, rfl, SqL.of I8.at_, atI_nat (j := 0) (by rw [List.getElem?_map, hr0]; rfl), _, _, rfl, ⟨Nat.le_trans (show r0.cps.size ≤ 100 by omega) (by decide), rfl⟩, _, _, rfl, rfl, _, rfl, ?_⟩
      refine ite_dec (fun h0 => ?_) (fun h0 => ?_)
      · have h0' : (0 : Int) < ((r0.cps.size : Nat) : Int) := h0
        have hw1 : 0 < wd := by omega
        obtain ⟨tn, htn⟩ : ∃ tn : Nat, 1 + m / 240 % 2 = (tn : Int) := ⟨(1 + m / 240 % 2).toNat, by omega⟩
        refine ⟨_, rfl, _, _, rfl, rfl, ⟨by decide, by decide⟩, _, _, rfl, rfl, (by show (0 : Int) < 2; decide), _, _, rfl, rfl, (tn : Int), (by rw [← htn]), by omega, by omega, ?_⟩
        refine for_range (lo := 0) (n := ((tn : Nat) : Int).toNat) (fun i σ' H' => ∃ (rs' : List Str) (v10 v11 v12 v13 : Option V), St41 K p.C_Prices p.C_Block H H' t a x o (k5 + (i : Int)) sg rows fo fm rs rs' ∧ RsOk rs' n wd ∧ (0 < i → ∃ r ∈ rs', ∃ c ∈ r.cps.toList, c ∉ (knS sg).cps.toList) ∧ σ' = [some (.ref s), some (.ref t), some (.int m), some (.int (ng : Int)), some (.str S), some (.str sg), some (.ref x), some (.ref a), some (.int U), some (.ref o), v10, v11, v12, v13]) ⟨rs, _, _, _, _, (by rw [show k5 + ((0 : Nat) : Int) = k5 by omega]; exact I8), hR, fun z => absurd z (Nat.lt_irrefl _), rfl⟩ ?_ ?_
        · rintro i σ' H9 hi ⟨rs', v10, v11, v12, v13, I9, hR9, _, rfl⟩
          have C9 : Ctr K H9 s t ns (k5 + (i : Int)) := hC.off I9.offT I9.ct (by omega)
          refine ⟨_, rfl, _, rfl, s, t, ns, _, rfl, C9, by omega, fun nn hn1 hn2 => ?_⟩
          have I10 := I9.tick (k2 := k5 + (i : Int) + 1)
          generalize upd H9 t (.lst [.int (k5 + (i : Int) + 1)]) = H10 at I10 ⊢
          have hl9 := hR9.len
          obtain ⟨r1, hr1, hw1'⟩ := row0 hR9
          have a10 := SqL.of (K := K) I10.at_
          -- r, k
          have e1 := Int.emod_nonneg nn (show ((n : Nat) : Int) ≠ 0 by omega)
          have e2 := Int.emod_lt_of_pos nn (show (0 : Int) < ((n : Nat) : Int) by omega)
          obtain ⟨r, hr⟩ : ∃ r : Nat, nn % ((n : Nat) : Int) = (r : Int) := ⟨_, (Int.toNat_of_nonneg e1).symm⟩
          have e3 := Int.emod_nonneg (nn / 5) (show ((wd : Nat) : Int) ≠ 0 by omega)
          have e4 := Int.emod_lt_of_pos (nn / 5) (show (0 : Int) < ((wd : Nat) : Int) by omega)
          obtain ⟨q, hq⟩ : ∃ q : Nat, nn / 5 % ((wd : Nat) : Int) = (q : Int) := ⟨_, (Int.toNat_of_nonneg e3).symm⟩
          have hrl : r < rs'.length := by omega
          have hrr := List.getElem?_eq_getElem hrl
          have hrw := hR9.wid _ (List.getElem_mem hrl)
          generalize rs'[r] = row at hrr hrw
          obtain ⟨jj, hjj⟩ : ∃ jj : Nat, (ng : Int) + nn / 500 % 2 = (jj : Int) := ⟨((ng : Int) + nn / 500 % 2).toNat, by omega⟩
          have hjl : jj < S.cps.toList.length := by rw [Array.length_toList]; omega
          have hcc := List.getElem?_eq_getElem hjl
          have hcs := hSs _ (List.getElem_mem hjl)
          generalize S.cps.toList[jj] = c at hcc hcs
          have hck : c ∉ (knS sg).cps.toList := fun z => by
            rcases knS_mem.mp z with z | z
            · exact sign_ne hcs z
            · rw [hsg] at z
              exact take_not hSn hcc (by omega) z
          refine ⟨_, rfl, _, rfl, _, _, rfl, .inl ⟨_, a10, rfl⟩, _, _, rfl, rfl, (by show (0 : Int) < (((rs'.map V.str).length : Nat) : Int); rw [List.length_map]; omega), ?_⟩
          refine ⟨fun σ' H' => H' = H10 ∧ σ' = [some (.ref s), some (.ref t), some (.int m), some (.int (ng : Int)), some (.str S), some (.str sg), some (.ref x), some (.ref a), some (.int U), some (.ref o), some (.int (0 + (i : Int))), some (.int nn), some (.int (r : Int)), some (.int (q : Int))], ?_, ?_⟩
          · refine ⟨_, rfl, _, _, rfl, rfl, ⟨by decide, by decide⟩, _, rfl, a, _, _, .str r1, rfl, rfl, a10, atI_nat (j := 0) (by rw [List.getElem?_map, hr1]; rfl), _, _, rfl, ⟨Nat.le_trans (show r1.cps.size ≤ 100 by omega) (by decide), rfl⟩, _, _, rfl, rfl, (by show (0 : Int) < ((r1.cps.size : Nat) : Int); omega), rfl, ?_⟩
            have g1 : nn % (((rs'.map V.str).length : Nat) : Int) = (r : Int) := by rw [List.length_map, hl9]; exact hr
            have g2 : nn / 5 % ((r1.length : Nat) : Int) = (q : Int) := by rw [show r1.length = wd from hw1']; exact hq
            rw [← g1, ← g2]
            rfl
          rintro σ' H11 ⟨rfl, rfl⟩
          refine ⟨_, rfl, _, rfl, a, _, _, .str row, rfl, rfl, a10, atI_nat (by rw [List.getElem?_map, hrr]; rfl), _, rfl, ?_⟩
          refine ⟨_, rfl, _, rfl, _, rfl, _, _, rfl, rfl, ⟨by decide, by decide⟩, _, _, rfl, rfl, (by show (0 : Int) < 2; decide), _, _, rfl, rfl, S, _, c, rfl, rfl, hzS, (by rw [hjj]; exact atI_nat hcc), ?_⟩
          refine ⟨row, ⟨#[c]⟩, q, rfl, by omega, by omega, by show 1 ≤ 100; decide, fun o' ho' => ?_⟩
          have ho2 : o'.cps.toList = row.cps.toList.set q c := by
            rw [ho']
            exact cut_set _ _ _ (by rw [Array.length_toList]; omega)
          refine ⟨_, rfl, _, rfl, a, _, _, r, rfl, rfl, I10.at_, ?_, ?_⟩
          · unfold ixN
            rw [if_pos (by omega), if_pos (by rw [List.length_map]; omega)]
            simp
          · have e5 : (rs'.map V.str).set r (V.str o') = (rs'.set r o').map V.str := by rw [List.map_set]
            rw [e5]
            refine ⟨rs'.set r o', _, _, _, _, (by rw [show k5 + ((i + 1 : Nat) : Int) = k5 + (i : Int) + 1 by omega]; exact I10.put), hR9.put hrr (by omega) ho2 hcs, fun _ => ⟨o', List.mem_set hrl o', c, ?_, hck⟩, rfl⟩
            rw [ho2]
            exact List.mem_set (by rw [Array.length_toList]; omega) c
        · rintro σ' H9 ⟨rs', v10, v11, v12, v13, I9, hR9, hbad, rfl⟩
          obtain ⟨i, j, hB⟩ := BadR.ex (hbad (by omega))
          have hl9 := hR9.len
          have hS9 : SmR rs' := ⟨by omega, fun r hr => by rw [hR9.wid r hr]; omega⟩
          refine ⟨_, rfl, _, rfl, x, a, sg, rows, fo, fm, rs', i, j, rfl, I9.prH, SqL.of I9.at_, hS9, hR9.block hn0, hB, fun q1 H10 s10 hq1 => ?_⟩
          refine ⟨_, rfl, _, rfl, a, sg, rs', i, j, rfl, SqL.of (s10 _ _ I9.at_), hS9, hB, fun q2 H11 s11 hq2 => ?_⟩
          refine ⟨q1, q2, _, _, rfl, rfl, SqT.of (s11 _ _ hq1), SqT.of hq2, rfl, rfl, _, rfl, ?_⟩
          rw [tup2_eq]
          refine iteF ⟨_, rs', _, _, _, _, I9.same (s10.trans s11), ?_, ?_, rfl⟩
          · omega
          · omega
      · exact ⟨k5, rs, _, _, _, _, I8, by omega, by omega, rfl⟩
    rintro σ' H9 ⟨k9, rs9, v10, v11, v12, v13, I9, c1, c2, rfl⟩
    refine ⟨_, rfl, _, rfl, _, rfl, cost I9 fun q H10 s10 hq => ?_⟩
    refine ⟨_, rfl, x, q, sg, rows, fo, fm, U, rfl, (I9.same s10).prH, hq, fun H11 s11 => ?_⟩
    have I11 := I9.same (s10.trans s11)
    exact kk k9 H11 I11.offT I11.ct (by omega) (by omega)
end
section
variable {P : Program} {w : World} {K : PySem.W.Frag} {mg : Str → Option Value} {base : Heap}
theorem ok_law {f_law f_law_round : Addr} {fd_law fd_law_round : FuncData} {p : Pm} (T : Txt K mg p) (D_law : Dn K mg "law" s_law ["_law_script"] f_law fd_law) (D_law_round : Dn K mg "_law_round" s_law_round ["_law_script", "_law_at"] f_law_round fd_law_round) (G_law_round : FnOk P w K mg base CX0 10 f_law_round fd_law_round ["_law_script", "_law_at"] (spRound K)) : FnOk P w K mg base CX0 11 f_law fd_law ["_law_script"] (spLaw K) := by
  refine D_law.fn.ok sc_law (fun vs H Q E h => ?_) (fun cdv A outer s H vs Q E hr h => ?_)
  · obtain ⟨a, ns, rfl, _⟩ := h
    rfl
  · obtain ⟨a, ns, rfl, hS, hlen, kk⟩ := h
    refine ⟨_, (pss_cons (ps_set (i := 1) sc_law.nd rfl (Or.inl rfl) (pe_lst (pa_cons pe_int pa_nil)))
      (pss_cons (ps_for PassesOwn.never rfl (pi_range1 rfl T.z_range (pa_cons (pe_op op_add pe_int (pe_op op_fdiv (pe_callB (call_len) rfl T.z_len bo_len (pa_cons (pe_slice sl_list (pv 0) po_none (po_some pe_int)) pa_nil)) pe_int)) pa_nil)) (pg_name (i := 2) sc_law.nd rfl (Or.inl rfl)) (pss_one (ps_if (pt_not (pt_val (pe_call G_law_round (hr.mono (by decide)) rfl D_law_round.m D_law_round.fn.kp D_law_round.b .nil pass0 (pa_cons (pv 0) (pa_cons (pv 1) pa_nil))))) (pss_one (ps_ret pe_bl)) pss_nil)))
      (pss_one (ps_ret pe_bl)))), ?_⟩
    refine ⟨by show 1 ≤ sizeLine; decide, fun t ht => ?_⟩
    have c1 : Ctr K (upd H t (.lst [.int 0])) a t ns 0 := by
      refine ⟨?_, hlen, upd_same, by decide⟩
      rw [Wo.set]
      exact Same.seq (fun b u e => Wo.in (ne_of_none e ht) e) hS
    generalize upd H t (.lst [.int 0]) = H1 at c1 ⊢
    have hcl := cutV_length (ns.map V.int) none (some 60)
    rw [List.length_map] at hcl
    refine ⟨_, rfl, _, rfl, a, _, rfl, c1.scr, fun p1 hp1 => ⟨_, _, rfl, .inl ⟨_, SqL.of upd_same, rfl⟩, _, _, rfl, rfl, ⟨by decide, by decide⟩, _, _, rfl, rfl, _, rfl, ?_, ?_, ?_⟩⟩
    · omega
    · omega
    have c2 := c1.same (Same.upd (o := .lst (cutV (ns.map V.int) none (some 60))) hp1)
    generalize upd H1 p1 (.lst (cutV (ns.map V.int) none (some 60))) = H2 at c2 ⊢
    obtain ⟨n, hn⟩ : ∃ n : Nat, (1 + (((cutV (ns.map V.int) none (some 60)).length : Nat) : Int) / 40).toNat = n := ⟨_, rfl⟩
    have hn2 : n ≤ 3 := by omega
    rw [hn]
    refine for_range (lo := 0) (n := n) (fun i σ' H3 => ∃ (v2 : Option V) (k : Int), σ' = [some (.ref a), some (.ref t), v2] ∧ Ctr K H3 a t ns k ∧ k ≤ 2000 * (i : Int)) ⟨_, 0, rfl, c2, by omega⟩ ?_ ?_
    · rintro i σ' H3 hi ⟨v2, k, rfl, c3, hk⟩
      have k0 := c3.k0
      refine ⟨_, rfl, _, rfl, a, t, ns, k, rfl, c3, by omega, fun k' H4 w4 ht4 b1 b2 => ⟨_, rfl, iteNT ⟨_, k', rfl, c3.off w4 ht4 (by omega), by omega⟩⟩⟩
    · rintro σ' H3 ⟨v2, k, rfl, c3, hk⟩
      exact kk H3
end
theorem law_ok {P : Program} {w : World} {K : PySem.W.Frag} {mg : Str → Option Value} {base : Heap} {p : Pm} {f_NoSign___init__ f_greatest_divisor f_lowest f_is_sign f_are_signs f_check_signs f_check_lengths_prices f_lowest_price f_lowest_prices f_all_unders f_unit_factors f_product_of f_by_unit f_costs_by_signs f_Prices___init__ f_pair_cost f_more_cost f_in_units f_check_known f_things_at f_turned f_columns_of f_is_gaps f_signs_of f_check_lengths_blocks f_are_things f_check_things f_check_columns f_Block___init__ f_check_block_rows f_thing_cost f_column_cost f_block_units f_block_cost f_law_next f_law_signs f_law_price f_law_prices f_law_column f_law_rows f_law_thing f_law_cost f_law_whole f_law_is_cost f_law_with f_law_refused f_law_strange f_law_round f_law : Addr} {fd_NoSign___init__ fd_greatest_divisor fd_lowest fd_is_sign fd_are_signs fd_check_signs fd_check_lengths_prices fd_lowest_price fd_lowest_prices fd_all_unders fd_unit_factors fd_product_of fd_by_unit fd_costs_by_signs fd_Prices___init__ fd_pair_cost fd_more_cost fd_in_units fd_check_known fd_things_at fd_turned fd_columns_of fd_is_gaps fd_signs_of fd_check_lengths_blocks fd_are_things fd_check_things fd_check_columns fd_Block___init__ fd_check_block_rows fd_thing_cost fd_column_cost fd_block_units fd_block_cost fd_law_next fd_law_signs fd_law_price fd_law_prices fd_law_column fd_law_rows fd_law_thing fd_law_cost fd_law_whole fd_law_is_cost fd_law_with fd_law_refused fd_law_strange fd_law_round fd_law : FuncData} (T : Txt K mg p)
    (D_NoSign___init__ : Dm K "__init__" "NoSign.__init__" s_NoSign___init__ ["self", "row", "place"] f_NoSign___init__ fd_NoSign___init__)
    (D_greatest_divisor : Dn K mg "greatest_divisor" s_greatest_divisor ["one", "other"] f_greatest_divisor fd_greatest_divisor)
    (D_lowest : Dn K mg "lowest" s_lowest ["fraction"] f_lowest fd_lowest)
    (D_is_sign : Dn K mg "is_sign" s_is_sign ["sign"] f_is_sign fd_is_sign)
    (D_are_signs : Dn K mg "are_signs" s_are_signs ["text"] f_are_signs fd_are_signs)
    (D_check_signs : Dn K mg "check_signs" s_check_signs ["signs"] f_check_signs fd_check_signs)
    (D_check_lengths_prices : Da K mg "check_lengths_prices" "check_lengths" s_check_lengths_prices ["signs", "pairs"] f_check_lengths_prices fd_check_lengths_prices)
    (D_lowest_price : Dn K mg "lowest_price" s_lowest_price ["price"] f_lowest_price fd_lowest_price)
    (D_lowest_prices : Dn K mg "lowest_prices" s_lowest_prices ["row"] f_lowest_prices fd_lowest_prices)
    (D_all_unders : Dn K mg "all_unders" s_all_unders ["pairs", "opening", "more"] f_all_unders fd_all_unders)
    (D_unit_factors : Dn K mg "unit_factors" s_unit_factors ["unders"] f_unit_factors fd_unit_factors)
    (D_product_of : Dn K mg "product_of" s_product_of ["factors"] f_product_of fd_product_of)
    (D_by_unit : Dn K mg "by_unit" s_by_unit ["price", "unit"] f_by_unit fd_by_unit)
    (D_costs_by_signs : Dn K mg "costs_by_signs" s_costs_by_signs ["signs", "pairs", "unit"] f_costs_by_signs fd_costs_by_signs)
    (D_Prices___init__ : Dm K "__init__" "Prices.__init__" s_Prices___init__ ["self", "signs", "pairs", "opening", "more"] f_Prices___init__ fd_Prices___init__)
    (D_pair_cost : Dn K mg "pair_cost" s_pair_cost ["prices", "one", "other"] f_pair_cost fd_pair_cost)
    (D_more_cost : Dn K mg "more_cost" s_more_cost ["prices"] f_more_cost fd_more_cost)
    (D_in_units : Dn K mg "in_units" s_in_units ["prices", "number"] f_in_units fd_in_units)
    (D_check_known : Dn K mg "check_known" s_check_known ["known", "rows"] f_check_known fd_check_known)
    (D_things_at : Dn K mg "things_at" s_things_at ["texts", "place"] f_things_at fd_things_at)
    (D_turned : Dn K mg "turned" s_turned ["texts", "many"] f_turned fd_turned)
    (D_columns_of : Dn K mg "columns_of" s_columns_of ["rows"] f_columns_of fd_columns_of)
    (D_is_gaps : Dn K mg "is_gaps" s_is_gaps ["column"] f_is_gaps fd_is_gaps)
    (D_signs_of : Dn K mg "signs_of" s_signs_of ["things"] f_signs_of fd_signs_of)
    (D_check_lengths_blocks : Da K mg "check_lengths_blocks" "check_lengths" s_check_lengths_blocks ["rows"] f_check_lengths_blocks fd_check_lengths_blocks)
    (D_are_things : Dn K mg "are_things" s_are_things ["row"] f_are_things fd_are_things)
    (D_check_things : Dn K mg "check_things" s_check_things ["rows"] f_check_things fd_check_things)
    (D_check_columns : Dn K mg "check_columns" s_check_columns ["rows"] f_check_columns fd_check_columns)
    (D_Block___init__ : Dm K "__init__" "Block.__init__" s_Block___init__ ["self", "rows"] f_Block___init__ fd_Block___init__)
    (D_check_block_rows : Dn K mg "check_block_rows" s_check_block_rows ["prices", "rows"] f_check_block_rows fd_check_block_rows)
    (D_thing_cost : Dn K mg "thing_cost" s_thing_cost ["prices", "one", "other"] f_thing_cost fd_thing_cost)
    (D_column_cost : Dn K mg "column_cost" s_column_cost ["prices", "column"] f_column_cost fd_column_cost)
    (D_block_units : Dn K mg "block_units" s_block_units ["prices", "block"] f_block_units fd_block_units)
    (D_block_cost : Dn K mg "block_cost" s_block_cost ["prices", "block"] f_block_cost fd_block_cost)
    (D_law_next : Dn K mg "_law_next" s_law_next ["_law_script", "_law_at"] f_law_next fd_law_next)
    (D_law_signs : Dn K mg "_law_signs" s_law_signs ["_law_script", "_law_at", "_law_many"] f_law_signs fd_law_signs)
    (D_law_price : Dn K mg "_law_price" s_law_price ["_law_script", "_law_at"] f_law_price fd_law_price)
    (D_law_prices : Dn K mg "_law_prices" s_law_prices ["_law_script", "_law_at", "_law_signs_here", "_law_same"] f_law_prices fd_law_prices)
    (D_law_column : Dn K mg "_law_column" s_law_column ["_law_script", "_law_at", "_law_signs_here", "_law_many"] f_law_column fd_law_column)
    (D_law_rows : Dn K mg "_law_rows" s_law_rows ["_law_script", "_law_at", "_law_signs_here", "_law_many", "_law_columns"] f_law_rows fd_law_rows)
    (D_law_thing : Dn K mg "_law_thing" s_law_thing ["_law_prices_here", "_law_one", "_law_other"] f_law_thing fd_law_thing)
    (D_law_cost : Dn K mg "_law_cost" s_law_cost ["_law_prices_here", "_law_rows_here"] f_law_cost fd_law_cost)
    (D_law_whole : Dn K mg "_law_whole" s_law_whole ["_law_found"] f_law_whole fd_law_whole)
    (D_law_is_cost : Dn K mg "_law_is_cost" s_law_is_cost ["_law_prices_here", "_law_found", "_law_units"] f_law_is_cost fd_law_is_cost)
    (D_law_with : Dn K mg "_law_with" s_law_with ["_law_row", "_law_k", "_law_thing_here"] f_law_with fd_law_with)
    (D_law_refused : Dn K mg "_law_refused" s_law_refused ["_law_prices_here", "_law_rows_here"] f_law_refused fd_law_refused)
    (D_law_strange : Dn K mg "_law_strange" s_law_strange ["_law_rows_here", "_law_signs_here"] f_law_strange fd_law_strange)
    (D_law_round : Dn K mg "_law_round" s_law_round ["_law_script", "_law_at"] f_law_round fd_law_round)
    (D_law : Dn K mg "law" s_law ["_law_script"] f_law fd_law)
    (M_NoSign : XMk K p.C_NoSign f_NoSign___init__)
    (M_Prices : Mk K p.C_Prices f_Prices___init__)
    (M_Block : Mk K p.C_Block f_Block___init__)
    : FnOk P w K mg base CX0 11 f_law fd_law ["_law_script"] (spLaw K) := by
  have R_greatest_divisor : FnOk P w K mg base CX0 1 f_greatest_divisor fd_greatest_divisor ["one", "other"] spGcd := ok_greatest_divisor T D_greatest_divisor
  have R_lowest : FnOk P w K mg base CX0 2 f_lowest fd_lowest ["fraction"] (spLow K) := ok_lowest T D_lowest D_greatest_divisor R_greatest_divisor
  have R_lowest_price : FnOk P w K mg base CX0 3 f_lowest_price fd_lowest_price ["price"] (spLowPrice K) := ok_lowest_price T D_lowest_price D_lowest R_lowest
  have R_lowest_prices : FnOk P w K mg base CX0 4 f_lowest_prices fd_lowest_prices ["row"] (spLowPrices K) := ok_lowest_prices T D_lowest_prices D_lowest_price R_lowest_price
  have R_all_unders : FnOk P w K mg base CX0 1 f_all_unders fd_all_unders ["pairs", "opening", "more"] (spUnders K) := ok_all_unders T D_all_unders
  have R_unit_factors : FnOk P w K mg base CX0 2 f_unit_factors fd_unit_factors ["unders"] (spFactors K) := ok_unit_factors T D_unit_factors D_greatest_divisor R_greatest_divisor
  have R_product_of : FnOk P w K mg base CX0 1 f_product_of fd_product_of ["factors"] (spProd K) := ok_product_of T D_product_of
  have R_by_unit : FnOk P w K mg base CX0 1 f_by_unit fd_by_unit ["price", "unit"] (spByUnit K) := ok_by_unit T D_by_unit
  have R_is_sign : FnOk P w K mg base CX0 1 f_is_sign fd_is_sign ["sign"] spIsSign := ok_is_sign T D_is_sign
  have R_are_signs : FnOk P w K mg base CX0 2 f_are_signs fd_are_signs ["text"] spAreSigns := ok_are_signs T D_are_signs D_is_sign R_is_sign
  have R_check_signs : FnOk P w K mg base CX0 3 f_check_signs fd_check_signs ["signs"] spCheckSigns := ok_check_signs T D_check_signs D_are_signs R_are_signs
  have R_check_lengths_prices : FnOk P w K mg base CX0 1 f_check_lengths_prices fd_check_lengths_prices ["signs", "pairs"] (spCheckLengths K) := ok_check_lengths_prices T D_check_lengths_prices
  have R_costs_by_signs : FnOk P w K mg base CX0 2 f_costs_by_signs fd_costs_by_signs ["signs", "pairs", "unit"] (spCosts K) := ok_costs_by_signs T D_costs_by_signs D_by_unit R_by_unit
  have R_pair_cost : FnOk P w K mg base CX0 1 f_pair_cost fd_pair_cost ["prices", "one", "other"] (spPairCost K p.C_Prices) := ok_pair_cost T D_pair_cost
  have R_more_cost : FnOk P w K mg base CX0 2 f_more_cost fd_more_cost ["prices"] (spMore K p.C_Prices) := ok_more_cost T D_more_cost
  have R_in_units : FnOk P w K mg base CX0 2 f_in_units fd_in_units ["prices", "number"] (spInUnits K p.C_Prices) := ok_in_units T D_in_units D_greatest_divisor R_greatest_divisor
  have R_Prices___init__ : FnOk P w K mg base CX0 5 f_Prices___init__ fd_Prices___init__ ["self", "signs", "pairs", "opening", "more"] (spInit K p.C_Prices) := ok_Prices___init__ T D_Prices___init__ D_check_signs R_check_signs D_check_lengths_prices R_check_lengths_prices D_lowest_prices R_lowest_prices D_lowest_price R_lowest_price D_all_unders R_all_unders D_unit_factors R_unit_factors D_product_of R_product_of D_costs_by_signs R_costs_by_signs D_by_unit R_by_unit
  have R_law_next : FnOk P w K mg base CX0 1 f_law_next fd_law_next ["_law_script", "_law_at"] (spNext K) := ok_law_next T D_law_next
  have R_things_at : FnOk P w K mg base CX0 1 f_things_at fd_things_at ["texts", "place"] (spThingsAt K) := ok_things_at T D_things_at
  have R_turned : FnOk P w K mg base CX0 2 f_turned fd_turned ["texts", "many"] (spTurned K) := ok_turned T D_turned D_things_at R_things_at
  have R_columns_of : FnOk P w K mg base CX0 3 f_columns_of fd_columns_of ["rows"] (spColumns K) := ok_columns_of T D_columns_of D_turned R_turned
  have R_is_gaps : FnOk P w K mg base CX0 1 f_is_gaps fd_is_gaps ["column"] spIsGaps := ok_is_gaps T D_is_gaps
  have R_signs_of : FnOk P w K mg base CX0 1 f_signs_of fd_signs_of ["things"] spSignsOf := ok_signs_of T D_signs_of
  have R_are_things : FnOk P w K mg base CX0 3 f_are_things fd_are_things ["row"] spAreThings := ok_are_things T D_are_things D_signs_of R_signs_of D_are_signs R_are_signs
  have R_check_lengths_blocks : FnOk P w K mg base (CXs P w) 1 f_check_lengths_blocks fd_check_lengths_blocks ["rows"] (spChk K p.C_NoBlock (fun _ => true) lenB) := ok_check_lengths_blocks T D_check_lengths_blocks
  have R_check_things : FnOk P w K mg base (CXs P w) 4 f_check_things fd_check_things ["rows"] (spChk K p.C_NoBlock (fun _ => true) (fun rs => rs.all thingsB)) := ok_check_things T D_check_things D_are_things R_are_things
  have R_check_columns : FnOk P w K mg base (CXs P w) 4 f_check_columns fd_check_columns ["rows"] (spChk K p.C_NoBlock lenB colsB) := ok_check_columns T D_check_columns D_columns_of R_columns_of D_is_gaps R_is_gaps
  have R_NoSign___init__ : FnOk P w K mg base (CXs P w) 1 f_NoSign___init__ fd_NoSign___init__ ["self", "row", "place"] (spNoSign p.C_NoSign) := ok_NoSign___init__ T D_NoSign___init__
  have R_Block___init__ : FnOk P w K mg base (CXs P w) 5 f_Block___init__ fd_Block___init__ ["self", "rows"] (spBlock K p.C_Block p.C_NoBlock) := ok_Block___init__ T D_Block___init__ D_check_lengths_blocks R_check_lengths_blocks D_check_things R_check_things D_check_columns R_check_columns
  have R_law_with : FnOk P w K mg base CX0 1 f_law_with fd_law_with ["_law_row", "_law_k", "_law_thing_here"] spWith := ok_law_with T D_law_with
  have R_check_known : FnOk P w K mg base (CXs P w) 3 f_check_known fd_check_known ["known", "rows"] (spKnownR K p.C_NoSign) := ok_check_known T D_check_known D_NoSign___init__ M_NoSign R_NoSign___init__
  have R_check_block_rows : FnOk P w K mg base (CXs P w) 4 f_check_block_rows fd_check_block_rows ["prices", "rows"] (spBlockRows K p.C_Prices p.C_NoSign) := ok_check_block_rows T D_check_block_rows D_check_known R_check_known
  have R_thing_cost : FnOk P w K mg base CX0 3 f_thing_cost fd_thing_cost ["prices", "one", "other"] (spThing K p.C_Prices) := ok_thing_cost T D_thing_cost D_more_cost R_more_cost D_pair_cost R_pair_cost
  have R_law_thing : FnOk P w K mg base CX0 3 f_law_thing fd_law_thing ["_law_prices_here", "_law_one", "_law_other"] (spThing K p.C_Prices) := ok_law_thing T D_law_thing D_more_cost R_more_cost D_pair_cost R_pair_cost
  have R_column_cost : FnOk P w K mg base CX0 4 f_column_cost fd_column_cost ["prices", "column"] (spColCost K p.C_Prices) := ok_column_cost T D_column_cost D_thing_cost R_thing_cost
  have R_block_units : FnOk P w K mg base CX0 5 f_block_units fd_block_units ["prices", "block"] (spBlkUnits K p.C_Prices p.C_Block) := ok_block_units T D_block_units D_column_cost R_column_cost D_columns_of R_columns_of
  have R_block_cost : FnOk P w K mg base (CXs P w) 6 f_block_cost fd_block_cost ["prices", "block"] (spBlkCost K p.C_Prices p.C_Block p.C_NoSign) := ok_block_cost T D_block_cost D_check_block_rows R_check_block_rows D_block_units R_block_units D_in_units R_in_units
  have R_law_signs : FnOk P w K mg base CX0 2 f_law_signs fd_law_signs ["_law_script", "_law_at", "_law_many"] (spSignsC K) := ok_law_signs T D_law_signs D_law_next R_law_next
  have R_law_price : FnOk P w K mg base CX0 2 f_law_price fd_law_price ["_law_script", "_law_at"] (spFrac K) := ok_law_price T D_law_price D_law_next R_law_next
  have R_law_prices : FnOk P w K mg base CX0 7 f_law_prices fd_law_prices ["_law_script", "_law_at", "_law_signs_here", "_law_same"] (spPricesC K p.C_Prices) := ok_law_prices T D_law_prices D_law_price R_law_price D_Prices___init__ M_Prices R_Prices___init__
  have R_law_cost : FnOk P w K mg base CX0 4 f_law_cost fd_law_cost ["_law_prices_here", "_law_rows_here"] (spCostC K p.C_Prices) := ok_law_cost T D_law_cost D_law_thing R_law_thing
  have R_law_whole : FnOk P w K mg base CX0 1 f_law_whole fd_law_whole ["_law_found"] spWholeI := ok_law_whole T D_law_whole
  have R_law_is_cost : FnOk P w K mg base CX0 3 f_law_is_cost fd_law_is_cost ["_law_prices_here", "_law_found", "_law_units"] (spIsCost K p.C_Prices) := ok_law_is_cost T D_law_is_cost D_law_whole R_law_whole D_in_units R_in_units
  have R_law_strange : FnOk P w K mg base CX0 1 f_law_strange fd_law_strange ["_law_rows_here", "_law_signs_here"] (spStrC K) := ok_law_strange T D_law_strange
  have R_law_refused : FnOk P w K mg base CX0 9 f_law_refused fd_law_refused ["_law_prices_here", "_law_rows_here"] (spRefC K p.C_Prices) := ok_law_refused T D_law_refused D_block_cost R_block_cost D_Block___init__ M_Block R_Block___init__ D_law_whole R_law_whole
  have R_law_column : FnOk P w K mg base CX0 2 f_law_column fd_law_column ["_law_script", "_law_at", "_law_signs_here", "_law_many"] (spColC K) := ok_law_column T D_law_column D_law_next R_law_next
  have R_law_rows : FnOk P w K mg base CX0 3 f_law_rows fd_law_rows ["_law_script", "_law_at", "_law_signs_here", "_law_many", "_law_columns"] (spRowsC K) := ok_law_rows T D_law_rows D_law_column R_law_column
  have R_law_round : FnOk P w K mg base CX0 10 f_law_round fd_law_round ["_law_script", "_law_at"] (spRound K) := ok_law_round T D_law_round D_law_next R_law_next D_law_signs R_law_signs D_law_prices R_law_prices D_law_rows R_law_rows D_law_cost R_law_cost D_Block___init__ M_Block (FnOk.nv R_Block___init__) D_block_cost (FnOk.nv R_block_cost) D_law_is_cost R_law_is_cost D_law_with R_law_with D_law_refused R_law_refused D_law_strange R_law_strange
  have R_law : FnOk P w K mg base CX0 11 f_law fd_law ["_law_script"] (spLaw K) := ok_law T D_law D_law_round R_law_round
  exact R_law
theorem all_mk {l : PySem.W.OpenLaw} {w : World} {K : PySem.W.Frag} {h : Heap} {mg : Str → Option Value} {fa : Addr} (X : K.In h) (G : h.Ns mainGlobals mg) (hfa : mg "law" = some (.ref fa))
    {t_FIRST_SIGN : Tok}
    {t_LAST_SIGN : Tok}
    {a_NO_SIGNS : Addr} {od_NO_SIGNS : Option Addr} {n_NO_SIGNS : Nat} {sl_NO_SIGNS : Array (Option Value)} {t_NO_SIGNS0 t_NO_SIGNS1 t_NO_SIGNS2 : Tok}
    {t_GAP : Tok}
    {C_Prices : Addr}
    {C_Block : Addr}
    {C_WeaveError : Addr}
    {C_NoBlock : Addr}
    {C_NoRow : Addr}
    {C_NoSign : Addr}
    (g_FIRST_SIGN : PySem.W.nsIn K mainGlobals "FIRST_SIGN" = some (some (.int 32 t_FIRST_SIGN)))
    (g_LAST_SIGN : PySem.W.nsIn K mainGlobals "LAST_SIGN" = some (some (.int 126 t_LAST_SIGN)))
    (g_NO_SIGNS : PySem.W.nsIn K mainGlobals "NO_SIGNS" = some (some (.ref a_NO_SIGNS)))
    (l_NO_SIGNS : K.lookup a_NO_SIGNS = some ⟨.type "tuple", od_NO_SIGNS, .seq #[.int 34 t_NO_SIGNS0, .int 37 t_NO_SIGNS1, .int 45 t_NO_SIGNS2] n_NO_SIGNS, sl_NO_SIGNS⟩)
    (g_GAP : PySem.W.nsIn K mainGlobals "GAP" = some (some (.str (Str.ofString "-") t_GAP)))
    (aC_Prices : PySem.W.nsIn K mainGlobals "Prices" = some (some (.ref C_Prices)))
    (pg_Prices : PySem.W.plainGet K C_Prices Str.empty = true) (hd_Prices : PySem.W.hasDictIn K C_Prices = true) (po_Prices : PySem.W.plainOver K C_Prices = true) (sa_Prices : PySem.W.findIn K (.ref C_Prices) "__setattr__" = some (some (.builtin "object.__setattr__"))) (mk_Prices : PySem.W.makesIn K C_Prices = true) (kc_Prices : PySem.W.keepIn K (.ref C_Prices) = true)
    (nA_Prices_signs : PySem.W.findIn K (.ref C_Prices) "signs" = some none)
    (nA_Prices_pairs : PySem.W.findIn K (.ref C_Prices) "pairs" = some none)
    (nA_Prices_opening : PySem.W.findIn K (.ref C_Prices) "opening" = some none)
    (nA_Prices_more : PySem.W.findIn K (.ref C_Prices) "more" = some none)
    (nA_Prices_factors : PySem.W.findIn K (.ref C_Prices) "factors" = some none)
    (nA_Prices_unit : PySem.W.findIn K (.ref C_Prices) "unit" = some none)
    (nA_Prices_costs : PySem.W.findIn K (.ref C_Prices) "costs" = some none)
    (nA_Prices_opening_units : PySem.W.findIn K (.ref C_Prices) "opening_units" = some none)
    (nA_Prices_more_units : PySem.W.findIn K (.ref C_Prices) "more_units" = some none)
    (aC_Block : PySem.W.nsIn K mainGlobals "Block" = some (some (.ref C_Block)))
    (pg_Block : PySem.W.plainGet K C_Block Str.empty = true) (hd_Block : PySem.W.hasDictIn K C_Block = true) (po_Block : PySem.W.plainOver K C_Block = true) (sa_Block : PySem.W.findIn K (.ref C_Block) "__setattr__" = some (some (.builtin "object.__setattr__"))) (mk_Block : PySem.W.makesIn K C_Block = true) (kc_Block : PySem.W.keepIn K (.ref C_Block) = true)
    (nA_Block_rows : PySem.W.findIn K (.ref C_Block) "rows" = some none)
    (aC_WeaveError : PySem.W.nsIn K mainGlobals "WeaveError" = some (some (.ref C_WeaveError)))
    (b1_WeaveError : PySem.W.hasDictIn K C_WeaveError = true) (b2_WeaveError : PySem.W.typeIn K (.ref C_WeaveError) = some (.type "type")) (b3_WeaveError : PySem.W.mroIn K C_WeaveError (.type "BaseException") = some true)
    (aC_NoBlock : PySem.W.nsIn K mainGlobals "NoBlock" = some (some (.ref C_NoBlock)))
    (xi_NoBlock : PySem.W.excIn K C_NoBlock [.type "ValueError", .type "Exception", .type "BaseException", .type "object"] "ValueError.__new__" = true)
    (y0_NoBlock : PySem.W.findIn K (.ref C_NoBlock) "__getattribute__" = some (some (.builtin "BaseException.__getattribute__")))
    (y1_NoBlock : PySem.W.findIn K (.ref C_NoBlock) "__getattr__" = some none)
    (y2_NoBlock : PySem.W.hasDictIn K C_NoBlock = true)
    (y3_NoBlock : PySem.W.findIn K (.ref C_NoBlock) "__class__" = some (some (.builtin "object.__class__")))
    (y4_NoBlock : PySem.W.specialIn K (.builtin "object.__class__") "__get__" = some (some (.builtin "getset_descriptor.__get__")))
    (y5_NoBlock : PySem.W.takesIn K (.builtin "object.__class__") = some true)
    (y6_NoBlock : PySem.W.mroIn K C_NoBlock (.type "object") = some true)
    (y7_NoBlock : PySem.W.mroIn K C_NoBlock (.type "BaseException") = some true)
    (aC_NoRow : PySem.W.nsIn K mainGlobals "NoRow" = some (some (.ref C_NoRow)))
    (aC_NoSign : PySem.W.nsIn K mainGlobals "NoSign" = some (some (.ref C_NoSign)))
    (y0_NoSign : PySem.W.findIn K (.ref C_NoSign) "__getattribute__" = some (some (.builtin "BaseException.__getattribute__")))
    (y1_NoSign : PySem.W.findIn K (.ref C_NoSign) "__getattr__" = some none)
    (y2_NoSign : PySem.W.hasDictIn K C_NoSign = true)
    (y3_NoSign : PySem.W.findIn K (.ref C_NoSign) "__class__" = some (some (.builtin "object.__class__")))
    (y4_NoSign : PySem.W.specialIn K (.builtin "object.__class__") "__get__" = some (some (.builtin "getset_descriptor.__get__")))
    (y5_NoSign : PySem.W.takesIn K (.builtin "object.__class__") = some true)
    (y6_NoSign : PySem.W.mroIn K C_NoSign (.type "object") = some true)
    (y7_NoSign : PySem.W.mroIn K C_NoSign (.type "BaseException") = some true)
    (u1_NoSign : PySem.W.hasDictIn K C_NoSign = true) (u2_NoSign : ((PySem.W.clsIn K C_NoSign).any fun cd => tailVE cd.mro) = true) (u3_NoSign : PySem.W.findIn K (.ref C_NoSign) "__setattr__" = some (some (.builtin "object.__setattr__"))) (kc_NoSign : PySem.W.keepIn K (.ref C_NoSign) = true)
    (nA_NoSign_row : PySem.W.findIn K (.ref C_NoSign) "row" = some none)
    (nA_NoSign_place : PySem.W.findIn K (.ref C_NoSign) "place" = some none)
    (w1_WeaveError : PySem.W.specialIn K (.ref C_WeaveError) "__getattribute__" = some (some (.builtin "type.__getattribute__"))) (w2_WeaveError : PySem.W.readsIn K C_WeaveError (.type "type") = true) (w3_WeaveError : PySem.W.findCls K (.ref C_WeaveError) (.type "type") "__init__" = some (.val (.builtin "ValueError.__init__")))
    (ks_NoSign_WeaveError : PySem.W.subIn K (.ref C_NoSign) (.ref C_WeaveError) = some true)
    (ki_NoSign_NoSign : PySem.W.kitOne K (.ref C_NoSign) (.ref C_NoSign) = some true)
    (ki_NoSign_NoBlock : PySem.W.kitOne K (.ref C_NoSign) (.ref C_NoBlock) = some false)
    (ki_NoSign_NoRow : PySem.W.kitOne K (.ref C_NoSign) (.ref C_NoRow) = some false)
    {od0 an0 : Option Addr} {sl0 : Array (Option Value)} {oc0 kV0 dc0 pm0 cd0 ct0 : Value} {f_NoSign___init__ : Addr}
    (a0 : PySem.W.findIn K (.ref C_NoSign) "__init__" = some (some (.ref f_NoSign___init__))) (i0 : PySem.W.isFn K (.ref f_NoSign___init__) = true) (l0 : K.lookup f_NoSign___init__ = some ⟨oc0, od0, .func (PySem.W.fnOf "__init__" "NoSign.__init__" (defArgs s_NoSign___init__) (defBody s_NoSign___init__) (defScope s_NoSign___init__) .none kV0 dc0 pm0 an0 cd0 ct0), sl0⟩) (c0 : PySem.W.codeIn K cd0 "NoSign.__init__" = true) (k0 : PySem.W.keepIn K (.ref f_NoSign___init__) = true)
    {od1 an1 : Option Addr} {sl1 : Array (Option Value)} {oc1 kV1 dc1 pm1 cd1 ct1 : Value} {f_greatest_divisor : Addr}
    (a1 : PySem.W.nsIn K mainGlobals "greatest_divisor" = some (some (.ref f_greatest_divisor))) (l1 : K.lookup f_greatest_divisor = some ⟨oc1, od1, .func (PySem.W.fnOf "greatest_divisor" "greatest_divisor" (defArgs s_greatest_divisor) (defBody s_greatest_divisor) (defScope s_greatest_divisor) .none kV1 dc1 pm1 an1 cd1 ct1), sl1⟩) (c1 : PySem.W.codeIn K cd1 "greatest_divisor" = true) (k1 : PySem.W.keepIn K (.ref f_greatest_divisor) = true)
    {od2 an2 : Option Addr} {sl2 : Array (Option Value)} {oc2 kV2 dc2 pm2 cd2 ct2 : Value} {f_lowest : Addr}
    (a2 : PySem.W.nsIn K mainGlobals "lowest" = some (some (.ref f_lowest))) (l2 : K.lookup f_lowest = some ⟨oc2, od2, .func (PySem.W.fnOf "lowest" "lowest" (defArgs s_lowest) (defBody s_lowest) (defScope s_lowest) .none kV2 dc2 pm2 an2 cd2 ct2), sl2⟩) (c2 : PySem.W.codeIn K cd2 "lowest" = true) (k2 : PySem.W.keepIn K (.ref f_lowest) = true)
    {od3 an3 : Option Addr} {sl3 : Array (Option Value)} {oc3 kV3 dc3 pm3 cd3 ct3 : Value} {f_is_sign : Addr}
    (a3 : PySem.W.nsIn K mainGlobals "is_sign" = some (some (.ref f_is_sign))) (l3 : K.lookup f_is_sign = some ⟨oc3, od3, .func (PySem.W.fnOf "is_sign" "is_sign" (defArgs s_is_sign) (defBody s_is_sign) (defScope s_is_sign) .none kV3 dc3 pm3 an3 cd3 ct3), sl3⟩) (c3 : PySem.W.codeIn K cd3 "is_sign" = true) (k3 : PySem.W.keepIn K (.ref f_is_sign) = true)
    {od4 an4 : Option Addr} {sl4 : Array (Option Value)} {oc4 kV4 dc4 pm4 cd4 ct4 : Value} {f_are_signs : Addr}
    (a4 : PySem.W.nsIn K mainGlobals "are_signs" = some (some (.ref f_are_signs))) (l4 : K.lookup f_are_signs = some ⟨oc4, od4, .func (PySem.W.fnOf "are_signs" "are_signs" (defArgs s_are_signs) (defBody s_are_signs) (defScope s_are_signs) .none kV4 dc4 pm4 an4 cd4 ct4), sl4⟩) (c4 : PySem.W.codeIn K cd4 "are_signs" = true) (k4 : PySem.W.keepIn K (.ref f_are_signs) = true)
    {od5 an5 : Option Addr} {sl5 : Array (Option Value)} {oc5 kV5 dc5 pm5 cd5 ct5 : Value} {f_check_signs : Addr}
    (a5 : PySem.W.nsIn K mainGlobals "check_signs" = some (some (.ref f_check_signs))) (l5 : K.lookup f_check_signs = some ⟨oc5, od5, .func (PySem.W.fnOf "check_signs" "check_signs" (defArgs s_check_signs) (defBody s_check_signs) (defScope s_check_signs) .none kV5 dc5 pm5 an5 cd5 ct5), sl5⟩) (c5 : PySem.W.codeIn K cd5 "check_signs" = true) (k5 : PySem.W.keepIn K (.ref f_check_signs) = true)
    {od6 an6 : Option Addr} {sl6 : Array (Option Value)} {oc6 kV6 dc6 pm6 cd6 ct6 : Value} {f_check_lengths_prices : Addr}
    (a6 : PySem.W.nsIn K mainGlobals "check_lengths_prices" = some (some (.ref f_check_lengths_prices))) (l6 : K.lookup f_check_lengths_prices = some ⟨oc6, od6, .func (PySem.W.fnOf "check_lengths" "check_lengths" (defArgs s_check_lengths_prices) (defBody s_check_lengths_prices) (defScope s_check_lengths_prices) .none kV6 dc6 pm6 an6 cd6 ct6), sl6⟩) (c6 : PySem.W.codeIn K cd6 "check_lengths" = true) (k6 : PySem.W.keepIn K (.ref f_check_lengths_prices) = true)
    {od7 an7 : Option Addr} {sl7 : Array (Option Value)} {oc7 kV7 dc7 pm7 cd7 ct7 : Value} {f_lowest_price : Addr}
    (a7 : PySem.W.nsIn K mainGlobals "lowest_price" = some (some (.ref f_lowest_price))) (l7 : K.lookup f_lowest_price = some ⟨oc7, od7, .func (PySem.W.fnOf "lowest_price" "lowest_price" (defArgs s_lowest_price) (defBody s_lowest_price) (defScope s_lowest_price) .none kV7 dc7 pm7 an7 cd7 ct7), sl7⟩) (c7 : PySem.W.codeIn K cd7 "lowest_price" = true) (k7 : PySem.W.keepIn K (.ref f_lowest_price) = true)
    {od8 an8 : Option Addr} {sl8 : Array (Option Value)} {oc8 kV8 dc8 pm8 cd8 ct8 : Value} {f_lowest_prices : Addr}
    (a8 : PySem.W.nsIn K mainGlobals "lowest_prices" = some (some (.ref f_lowest_prices))) (l8 : K.lookup f_lowest_prices = some ⟨oc8, od8, .func (PySem.W.fnOf "lowest_prices" "lowest_prices" (defArgs s_lowest_prices) (defBody s_lowest_prices) (defScope s_lowest_prices) .none kV8 dc8 pm8 an8 cd8 ct8), sl8⟩) (c8 : PySem.W.codeIn K cd8 "lowest_prices" = true) (k8 : PySem.W.keepIn K (.ref f_lowest_prices) = true)
    {od9 an9 : Option Addr} {sl9 : Array (Option Value)} {oc9 kV9 dc9 pm9 cd9 ct9 : Value} {f_all_unders : Addr}
    (a9 : PySem.W.nsIn K mainGlobals "all_unders" = some (some (.ref f_all_unders))) (l9 : K.lookup f_all_unders = some ⟨oc9, od9, .func (PySem.W.fnOf "all_unders" "all_unders" (defArgs s_all_unders) (defBody s_all_unders) (defScope s_all_unders) .none kV9 dc9 pm9 an9 cd9 ct9), sl9⟩) (c9 : PySem.W.codeIn K cd9 "all_unders" = true) (k9 : PySem.W.keepIn K (.ref f_all_unders) = true)
    {od10 an10 : Option Addr} {sl10 : Array (Option Value)} {oc10 kV10 dc10 pm10 cd10 ct10 : Value} {f_unit_factors : Addr}
    (a10 : PySem.W.nsIn K mainGlobals "unit_factors" = some (some (.ref f_unit_factors))) (l10 : K.lookup f_unit_factors = some ⟨oc10, od10, .func (PySem.W.fnOf "unit_factors" "unit_factors" (defArgs s_unit_factors) (defBody s_unit_factors) (defScope s_unit_factors) .none kV10 dc10 pm10 an10 cd10 ct10), sl10⟩) (c10 : PySem.W.codeIn K cd10 "unit_factors" = true) (k10 : PySem.W.keepIn K (.ref f_unit_factors) = true)
    {od11 an11 : Option Addr} {sl11 : Array (Option Value)} {oc11 kV11 dc11 pm11 cd11 ct11 : Value} {f_product_of : Addr}
    (a11 : PySem.W.nsIn K mainGlobals "product_of" = some (some (.ref f_product_of))) (l11 : K.lookup f_product_of = some ⟨oc11, od11, .func (PySem.W.fnOf "product_of" "product_of" (defArgs s_product_of) (defBody s_product_of) (defScope s_product_of) .none kV11 dc11 pm11 an11 cd11 ct11), sl11⟩) (c11 : PySem.W.codeIn K cd11 "product_of" = true) (k11 : PySem.W.keepIn K (.ref f_product_of) = true)
    {od12 an12 : Option Addr} {sl12 : Array (Option Value)} {oc12 kV12 dc12 pm12 cd12 ct12 : Value} {f_by_unit : Addr}
    (a12 : PySem.W.nsIn K mainGlobals "by_unit" = some (some (.ref f_by_unit))) (l12 : K.lookup f_by_unit = some ⟨oc12, od12, .func (PySem.W.fnOf "by_unit" "by_unit" (defArgs s_by_unit) (defBody s_by_unit) (defScope s_by_unit) .none kV12 dc12 pm12 an12 cd12 ct12), sl12⟩) (c12 : PySem.W.codeIn K cd12 "by_unit" = true) (k12 : PySem.W.keepIn K (.ref f_by_unit) = true)
    {od13 an13 : Option Addr} {sl13 : Array (Option Value)} {oc13 kV13 dc13 pm13 cd13 ct13 : Value} {f_costs_by_signs : Addr}
    (a13 : PySem.W.nsIn K mainGlobals "costs_by_signs" = some (some (.ref f_costs_by_signs))) (l13 : K.lookup f_costs_by_signs = some ⟨oc13, od13, .func (PySem.W.fnOf "costs_by_signs" "costs_by_signs" (defArgs s_costs_by_signs) (defBody s_costs_by_signs) (defScope s_costs_by_signs) .none kV13 dc13 pm13 an13 cd13 ct13), sl13⟩) (c13 : PySem.W.codeIn K cd13 "costs_by_signs" = true) (k13 : PySem.W.keepIn K (.ref f_costs_by_signs) = true)
    {od14 an14 : Option Addr} {sl14 : Array (Option Value)} {oc14 kV14 dc14 pm14 cd14 ct14 : Value} {f_Prices___init__ : Addr}
    (a14 : PySem.W.findIn K (.ref C_Prices) "__init__" = some (some (.ref f_Prices___init__))) (i14 : PySem.W.isFn K (.ref f_Prices___init__) = true) (l14 : K.lookup f_Prices___init__ = some ⟨oc14, od14, .func (PySem.W.fnOf "__init__" "Prices.__init__" (defArgs s_Prices___init__) (defBody s_Prices___init__) (defScope s_Prices___init__) .none kV14 dc14 pm14 an14 cd14 ct14), sl14⟩) (c14 : PySem.W.codeIn K cd14 "Prices.__init__" = true) (k14 : PySem.W.keepIn K (.ref f_Prices___init__) = true)
    {od15 an15 : Option Addr} {sl15 : Array (Option Value)} {oc15 kV15 dc15 pm15 cd15 ct15 : Value} {f_pair_cost : Addr}
    (a15 : PySem.W.nsIn K mainGlobals "pair_cost" = some (some (.ref f_pair_cost))) (l15 : K.lookup f_pair_cost = some ⟨oc15, od15, .func (PySem.W.fnOf "pair_cost" "pair_cost" (defArgs s_pair_cost) (defBody s_pair_cost) (defScope s_pair_cost) .none kV15 dc15 pm15 an15 cd15 ct15), sl15⟩) (c15 : PySem.W.codeIn K cd15 "pair_cost" = true) (k15 : PySem.W.keepIn K (.ref f_pair_cost) = true)
    {od16 an16 : Option Addr} {sl16 : Array (Option Value)} {oc16 kV16 dc16 pm16 cd16 ct16 : Value} {f_more_cost : Addr}
    (a16 : PySem.W.nsIn K mainGlobals "more_cost" = some (some (.ref f_more_cost))) (l16 : K.lookup f_more_cost = some ⟨oc16, od16, .func (PySem.W.fnOf "more_cost" "more_cost" (defArgs s_more_cost) (defBody s_more_cost) (defScope s_more_cost) .none kV16 dc16 pm16 an16 cd16 ct16), sl16⟩) (c16 : PySem.W.codeIn K cd16 "more_cost" = true) (k16 : PySem.W.keepIn K (.ref f_more_cost) = true)
    {od17 an17 : Option Addr} {sl17 : Array (Option Value)} {oc17 kV17 dc17 pm17 cd17 ct17 : Value} {f_in_units : Addr}
    (a17 : PySem.W.nsIn K mainGlobals "in_units" = some (some (.ref f_in_units))) (l17 : K.lookup f_in_units = some ⟨oc17, od17, .func (PySem.W.fnOf "in_units" "in_units" (defArgs s_in_units) (defBody s_in_units) (defScope s_in_units) .none kV17 dc17 pm17 an17 cd17 ct17), sl17⟩) (c17 : PySem.W.codeIn K cd17 "in_units" = true) (k17 : PySem.W.keepIn K (.ref f_in_units) = true)
    {od18 an18 : Option Addr} {sl18 : Array (Option Value)} {oc18 kV18 dc18 pm18 cd18 ct18 : Value} {f_check_known : Addr}
    (a18 : PySem.W.nsIn K mainGlobals "check_known" = some (some (.ref f_check_known))) (l18 : K.lookup f_check_known = some ⟨oc18, od18, .func (PySem.W.fnOf "check_known" "check_known" (defArgs s_check_known) (defBody s_check_known) (defScope s_check_known) .none kV18 dc18 pm18 an18 cd18 ct18), sl18⟩) (c18 : PySem.W.codeIn K cd18 "check_known" = true) (k18 : PySem.W.keepIn K (.ref f_check_known) = true)
    {od19 an19 : Option Addr} {sl19 : Array (Option Value)} {oc19 kV19 dc19 pm19 cd19 ct19 : Value} {f_things_at : Addr}
    (a19 : PySem.W.nsIn K mainGlobals "things_at" = some (some (.ref f_things_at))) (l19 : K.lookup f_things_at = some ⟨oc19, od19, .func (PySem.W.fnOf "things_at" "things_at" (defArgs s_things_at) (defBody s_things_at) (defScope s_things_at) .none kV19 dc19 pm19 an19 cd19 ct19), sl19⟩) (c19 : PySem.W.codeIn K cd19 "things_at" = true) (k19 : PySem.W.keepIn K (.ref f_things_at) = true)
    {od20 an20 : Option Addr} {sl20 : Array (Option Value)} {oc20 kV20 dc20 pm20 cd20 ct20 : Value} {f_turned : Addr}
    (a20 : PySem.W.nsIn K mainGlobals "turned" = some (some (.ref f_turned))) (l20 : K.lookup f_turned = some ⟨oc20, od20, .func (PySem.W.fnOf "turned" "turned" (defArgs s_turned) (defBody s_turned) (defScope s_turned) .none kV20 dc20 pm20 an20 cd20 ct20), sl20⟩) (c20 : PySem.W.codeIn K cd20 "turned" = true) (k20 : PySem.W.keepIn K (.ref f_turned) = true)
    {od21 an21 : Option Addr} {sl21 : Array (Option Value)} {oc21 kV21 dc21 pm21 cd21 ct21 : Value} {f_columns_of : Addr}
    (a21 : PySem.W.nsIn K mainGlobals "columns_of" = some (some (.ref f_columns_of))) (l21 : K.lookup f_columns_of = some ⟨oc21, od21, .func (PySem.W.fnOf "columns_of" "columns_of" (defArgs s_columns_of) (defBody s_columns_of) (defScope s_columns_of) .none kV21 dc21 pm21 an21 cd21 ct21), sl21⟩) (c21 : PySem.W.codeIn K cd21 "columns_of" = true) (k21 : PySem.W.keepIn K (.ref f_columns_of) = true)
    {od22 an22 : Option Addr} {sl22 : Array (Option Value)} {oc22 kV22 dc22 pm22 cd22 ct22 : Value} {f_is_gaps : Addr}
    (a22 : PySem.W.nsIn K mainGlobals "is_gaps" = some (some (.ref f_is_gaps))) (l22 : K.lookup f_is_gaps = some ⟨oc22, od22, .func (PySem.W.fnOf "is_gaps" "is_gaps" (defArgs s_is_gaps) (defBody s_is_gaps) (defScope s_is_gaps) .none kV22 dc22 pm22 an22 cd22 ct22), sl22⟩) (c22 : PySem.W.codeIn K cd22 "is_gaps" = true) (k22 : PySem.W.keepIn K (.ref f_is_gaps) = true)
    {od23 an23 : Option Addr} {sl23 : Array (Option Value)} {oc23 kV23 dc23 pm23 cd23 ct23 : Value} {f_signs_of : Addr}
    (a23 : PySem.W.nsIn K mainGlobals "signs_of" = some (some (.ref f_signs_of))) (l23 : K.lookup f_signs_of = some ⟨oc23, od23, .func (PySem.W.fnOf "signs_of" "signs_of" (defArgs s_signs_of) (defBody s_signs_of) (defScope s_signs_of) .none kV23 dc23 pm23 an23 cd23 ct23), sl23⟩) (c23 : PySem.W.codeIn K cd23 "signs_of" = true) (k23 : PySem.W.keepIn K (.ref f_signs_of) = true)
    {od24 an24 : Option Addr} {sl24 : Array (Option Value)} {oc24 kV24 dc24 pm24 cd24 ct24 : Value} {f_check_lengths_blocks : Addr}
    (a24 : PySem.W.nsIn K mainGlobals "check_lengths_blocks" = some (some (.ref f_check_lengths_blocks))) (l24 : K.lookup f_check_lengths_blocks = some ⟨oc24, od24, .func (PySem.W.fnOf "check_lengths" "check_lengths" (defArgs s_check_lengths_blocks) (defBody s_check_lengths_blocks) (defScope s_check_lengths_blocks) .none kV24 dc24 pm24 an24 cd24 ct24), sl24⟩) (c24 : PySem.W.codeIn K cd24 "check_lengths" = true) (k24 : PySem.W.keepIn K (.ref f_check_lengths_blocks) = true)
    {od25 an25 : Option Addr} {sl25 : Array (Option Value)} {oc25 kV25 dc25 pm25 cd25 ct25 : Value} {f_are_things : Addr}
    (a25 : PySem.W.nsIn K mainGlobals "are_things" = some (some (.ref f_are_things))) (l25 : K.lookup f_are_things = some ⟨oc25, od25, .func (PySem.W.fnOf "are_things" "are_things" (defArgs s_are_things) (defBody s_are_things) (defScope s_are_things) .none kV25 dc25 pm25 an25 cd25 ct25), sl25⟩) (c25 : PySem.W.codeIn K cd25 "are_things" = true) (k25 : PySem.W.keepIn K (.ref f_are_things) = true)
    {od26 an26 : Option Addr} {sl26 : Array (Option Value)} {oc26 kV26 dc26 pm26 cd26 ct26 : Value} {f_check_things : Addr}
    (a26 : PySem.W.nsIn K mainGlobals "check_things" = some (some (.ref f_check_things))) (l26 : K.lookup f_check_things = some ⟨oc26, od26, .func (PySem.W.fnOf "check_things" "check_things" (defArgs s_check_things) (defBody s_check_things) (defScope s_check_things) .none kV26 dc26 pm26 an26 cd26 ct26), sl26⟩) (c26 : PySem.W.codeIn K cd26 "check_things" = true) (k26 : PySem.W.keepIn K (.ref f_check_things) = true)
    {od27 an27 : Option Addr} {sl27 : Array (Option Value)} {oc27 kV27 dc27 pm27 cd27 ct27 : Value} {f_check_columns : Addr}
    (a27 : PySem.W.nsIn K mainGlobals "check_columns" = some (some (.ref f_check_columns))) (l27 : K.lookup f_check_columns = some ⟨oc27, od27, .func (PySem.W.fnOf "check_columns" "check_columns" (defArgs s_check_columns) (defBody s_check_columns) (defScope s_check_columns) .none kV27 dc27 pm27 an27 cd27 ct27), sl27⟩) (c27 : PySem.W.codeIn K cd27 "check_columns" = true) (k27 : PySem.W.keepIn K (.ref f_check_columns) = true)
    {od28 an28 : Option Addr} {sl28 : Array (Option Value)} {oc28 kV28 dc28 pm28 cd28 ct28 : Value} {f_Block___init__ : Addr}
    (a28 : PySem.W.findIn K (.ref C_Block) "__init__" = some (some (.ref f_Block___init__))) (i28 : PySem.W.isFn K (.ref f_Block___init__) = true) (l28 : K.lookup f_Block___init__ = some ⟨oc28, od28, .func (PySem.W.fnOf "__init__" "Block.__init__" (defArgs s_Block___init__) (defBody s_Block___init__) (defScope s_Block___init__) .none kV28 dc28 pm28 an28 cd28 ct28), sl28⟩) (c28 : PySem.W.codeIn K cd28 "Block.__init__" = true) (k28 : PySem.W.keepIn K (.ref f_Block___init__) = true)
    {od29 an29 : Option Addr} {sl29 : Array (Option Value)} {oc29 kV29 dc29 pm29 cd29 ct29 : Value} {f_check_block_rows : Addr}
    (a29 : PySem.W.nsIn K mainGlobals "check_block_rows" = some (some (.ref f_check_block_rows))) (l29 : K.lookup f_check_block_rows = some ⟨oc29, od29, .func (PySem.W.fnOf "check_block_rows" "check_block_rows" (defArgs s_check_block_rows) (defBody s_check_block_rows) (defScope s_check_block_rows) .none kV29 dc29 pm29 an29 cd29 ct29), sl29⟩) (c29 : PySem.W.codeIn K cd29 "check_block_rows" = true) (k29 : PySem.W.keepIn K (.ref f_check_block_rows) = true)
    {od30 an30 : Option Addr} {sl30 : Array (Option Value)} {oc30 kV30 dc30 pm30 cd30 ct30 : Value} {f_thing_cost : Addr}
    (a30 : PySem.W.nsIn K mainGlobals "thing_cost" = some (some (.ref f_thing_cost))) (l30 : K.lookup f_thing_cost = some ⟨oc30, od30, .func (PySem.W.fnOf "thing_cost" "thing_cost" (defArgs s_thing_cost) (defBody s_thing_cost) (defScope s_thing_cost) .none kV30 dc30 pm30 an30 cd30 ct30), sl30⟩) (c30 : PySem.W.codeIn K cd30 "thing_cost" = true) (k30 : PySem.W.keepIn K (.ref f_thing_cost) = true)
    {od31 an31 : Option Addr} {sl31 : Array (Option Value)} {oc31 kV31 dc31 pm31 cd31 ct31 : Value} {f_column_cost : Addr}
    (a31 : PySem.W.nsIn K mainGlobals "column_cost" = some (some (.ref f_column_cost))) (l31 : K.lookup f_column_cost = some ⟨oc31, od31, .func (PySem.W.fnOf "column_cost" "column_cost" (defArgs s_column_cost) (defBody s_column_cost) (defScope s_column_cost) .none kV31 dc31 pm31 an31 cd31 ct31), sl31⟩) (c31 : PySem.W.codeIn K cd31 "column_cost" = true) (k31 : PySem.W.keepIn K (.ref f_column_cost) = true)
    {od32 an32 : Option Addr} {sl32 : Array (Option Value)} {oc32 kV32 dc32 pm32 cd32 ct32 : Value} {f_block_units : Addr}
    (a32 : PySem.W.nsIn K mainGlobals "block_units" = some (some (.ref f_block_units))) (l32 : K.lookup f_block_units = some ⟨oc32, od32, .func (PySem.W.fnOf "block_units" "block_units" (defArgs s_block_units) (defBody s_block_units) (defScope s_block_units) .none kV32 dc32 pm32 an32 cd32 ct32), sl32⟩) (c32 : PySem.W.codeIn K cd32 "block_units" = true) (k32 : PySem.W.keepIn K (.ref f_block_units) = true)
    {od33 an33 : Option Addr} {sl33 : Array (Option Value)} {oc33 kV33 dc33 pm33 cd33 ct33 : Value} {f_block_cost : Addr}
    (a33 : PySem.W.nsIn K mainGlobals "block_cost" = some (some (.ref f_block_cost))) (l33 : K.lookup f_block_cost = some ⟨oc33, od33, .func (PySem.W.fnOf "block_cost" "block_cost" (defArgs s_block_cost) (defBody s_block_cost) (defScope s_block_cost) .none kV33 dc33 pm33 an33 cd33 ct33), sl33⟩) (c33 : PySem.W.codeIn K cd33 "block_cost" = true) (k33 : PySem.W.keepIn K (.ref f_block_cost) = true)
    {od34 an34 : Option Addr} {sl34 : Array (Option Value)} {oc34 kV34 dc34 pm34 cd34 ct34 : Value} {f_law_next : Addr}
    (a34 : PySem.W.nsIn K mainGlobals "_law_next" = some (some (.ref f_law_next))) (l34 : K.lookup f_law_next = some ⟨oc34, od34, .func (PySem.W.fnOf "_law_next" "_law_next" (defArgs s_law_next) (defBody s_law_next) (defScope s_law_next) .none kV34 dc34 pm34 an34 cd34 ct34), sl34⟩) (c34 : PySem.W.codeIn K cd34 "_law_next" = true) (k34 : PySem.W.keepIn K (.ref f_law_next) = true)
    {od35 an35 : Option Addr} {sl35 : Array (Option Value)} {oc35 kV35 dc35 pm35 cd35 ct35 : Value} {f_law_signs : Addr}
    (a35 : PySem.W.nsIn K mainGlobals "_law_signs" = some (some (.ref f_law_signs))) (l35 : K.lookup f_law_signs = some ⟨oc35, od35, .func (PySem.W.fnOf "_law_signs" "_law_signs" (defArgs s_law_signs) (defBody s_law_signs) (defScope s_law_signs) .none kV35 dc35 pm35 an35 cd35 ct35), sl35⟩) (c35 : PySem.W.codeIn K cd35 "_law_signs" = true) (k35 : PySem.W.keepIn K (.ref f_law_signs) = true)
    {od36 an36 : Option Addr} {sl36 : Array (Option Value)} {oc36 kV36 dc36 pm36 cd36 ct36 : Value} {f_law_price : Addr}
    (a36 : PySem.W.nsIn K mainGlobals "_law_price" = some (some (.ref f_law_price))) (l36 : K.lookup f_law_price = some ⟨oc36, od36, .func (PySem.W.fnOf "_law_price" "_law_price" (defArgs s_law_price) (defBody s_law_price) (defScope s_law_price) .none kV36 dc36 pm36 an36 cd36 ct36), sl36⟩) (c36 : PySem.W.codeIn K cd36 "_law_price" = true) (k36 : PySem.W.keepIn K (.ref f_law_price) = true)
    {od37 an37 : Option Addr} {sl37 : Array (Option Value)} {oc37 kV37 dc37 pm37 cd37 ct37 : Value} {f_law_prices : Addr}
    (a37 : PySem.W.nsIn K mainGlobals "_law_prices" = some (some (.ref f_law_prices))) (l37 : K.lookup f_law_prices = some ⟨oc37, od37, .func (PySem.W.fnOf "_law_prices" "_law_prices" (defArgs s_law_prices) (defBody s_law_prices) (defScope s_law_prices) .none kV37 dc37 pm37 an37 cd37 ct37), sl37⟩) (c37 : PySem.W.codeIn K cd37 "_law_prices" = true) (k37 : PySem.W.keepIn K (.ref f_law_prices) = true)
    {od38 an38 : Option Addr} {sl38 : Array (Option Value)} {oc38 kV38 dc38 pm38 cd38 ct38 : Value} {f_law_column : Addr}
    (a38 : PySem.W.nsIn K mainGlobals "_law_column" = some (some (.ref f_law_column))) (l38 : K.lookup f_law_column = some ⟨oc38, od38, .func (PySem.W.fnOf "_law_column" "_law_column" (defArgs s_law_column) (defBody s_law_column) (defScope s_law_column) .none kV38 dc38 pm38 an38 cd38 ct38), sl38⟩) (c38 : PySem.W.codeIn K cd38 "_law_column" = true) (k38 : PySem.W.keepIn K (.ref f_law_column) = true)
    {od39 an39 : Option Addr} {sl39 : Array (Option Value)} {oc39 kV39 dc39 pm39 cd39 ct39 : Value} {f_law_rows : Addr}
    (a39 : PySem.W.nsIn K mainGlobals "_law_rows" = some (some (.ref f_law_rows))) (l39 : K.lookup f_law_rows = some ⟨oc39, od39, .func (PySem.W.fnOf "_law_rows" "_law_rows" (defArgs s_law_rows) (defBody s_law_rows) (defScope s_law_rows) .none kV39 dc39 pm39 an39 cd39 ct39), sl39⟩) (c39 : PySem.W.codeIn K cd39 "_law_rows" = true) (k39 : PySem.W.keepIn K (.ref f_law_rows) = true)
    {od40 an40 : Option Addr} {sl40 : Array (Option Value)} {oc40 kV40 dc40 pm40 cd40 ct40 : Value} {f_law_thing : Addr}
    (a40 : PySem.W.nsIn K mainGlobals "_law_thing" = some (some (.ref f_law_thing))) (l40 : K.lookup f_law_thing = some ⟨oc40, od40, .func (PySem.W.fnOf "_law_thing" "_law_thing" (defArgs s_law_thing) (defBody s_law_thing) (defScope s_law_thing) .none kV40 dc40 pm40 an40 cd40 ct40), sl40⟩) (c40 : PySem.W.codeIn K cd40 "_law_thing" = true) (k40 : PySem.W.keepIn K (.ref f_law_thing) = true)
    {od41 an41 : Option Addr} {sl41 : Array (Option Value)} {oc41 kV41 dc41 pm41 cd41 ct41 : Value} {f_law_cost : Addr}
    (a41 : PySem.W.nsIn K mainGlobals "_law_cost" = some (some (.ref f_law_cost))) (l41 : K.lookup f_law_cost = some ⟨oc41, od41, .func (PySem.W.fnOf "_law_cost" "_law_cost" (defArgs s_law_cost) (defBody s_law_cost) (defScope s_law_cost) .none kV41 dc41 pm41 an41 cd41 ct41), sl41⟩) (c41 : PySem.W.codeIn K cd41 "_law_cost" = true) (k41 : PySem.W.keepIn K (.ref f_law_cost) = true)
    {od42 an42 : Option Addr} {sl42 : Array (Option Value)} {oc42 kV42 dc42 pm42 cd42 ct42 : Value} {f_law_whole : Addr}
    (a42 : PySem.W.nsIn K mainGlobals "_law_whole" = some (some (.ref f_law_whole))) (l42 : K.lookup f_law_whole = some ⟨oc42, od42, .func (PySem.W.fnOf "_law_whole" "_law_whole" (defArgs s_law_whole) (defBody s_law_whole) (defScope s_law_whole) .none kV42 dc42 pm42 an42 cd42 ct42), sl42⟩) (c42 : PySem.W.codeIn K cd42 "_law_whole" = true) (k42 : PySem.W.keepIn K (.ref f_law_whole) = true)
    {od43 an43 : Option Addr} {sl43 : Array (Option Value)} {oc43 kV43 dc43 pm43 cd43 ct43 : Value} {f_law_is_cost : Addr}
    (a43 : PySem.W.nsIn K mainGlobals "_law_is_cost" = some (some (.ref f_law_is_cost))) (l43 : K.lookup f_law_is_cost = some ⟨oc43, od43, .func (PySem.W.fnOf "_law_is_cost" "_law_is_cost" (defArgs s_law_is_cost) (defBody s_law_is_cost) (defScope s_law_is_cost) .none kV43 dc43 pm43 an43 cd43 ct43), sl43⟩) (c43 : PySem.W.codeIn K cd43 "_law_is_cost" = true) (k43 : PySem.W.keepIn K (.ref f_law_is_cost) = true)
    {od44 an44 : Option Addr} {sl44 : Array (Option Value)} {oc44 kV44 dc44 pm44 cd44 ct44 : Value} {f_law_with : Addr}
    (a44 : PySem.W.nsIn K mainGlobals "_law_with" = some (some (.ref f_law_with))) (l44 : K.lookup f_law_with = some ⟨oc44, od44, .func (PySem.W.fnOf "_law_with" "_law_with" (defArgs s_law_with) (defBody s_law_with) (defScope s_law_with) .none kV44 dc44 pm44 an44 cd44 ct44), sl44⟩) (c44 : PySem.W.codeIn K cd44 "_law_with" = true) (k44 : PySem.W.keepIn K (.ref f_law_with) = true)
    {od45 an45 : Option Addr} {sl45 : Array (Option Value)} {oc45 kV45 dc45 pm45 cd45 ct45 : Value} {f_law_refused : Addr}
    (a45 : PySem.W.nsIn K mainGlobals "_law_refused" = some (some (.ref f_law_refused))) (l45 : K.lookup f_law_refused = some ⟨oc45, od45, .func (PySem.W.fnOf "_law_refused" "_law_refused" (defArgs s_law_refused) (defBody s_law_refused) (defScope s_law_refused) .none kV45 dc45 pm45 an45 cd45 ct45), sl45⟩) (c45 : PySem.W.codeIn K cd45 "_law_refused" = true) (k45 : PySem.W.keepIn K (.ref f_law_refused) = true)
    {od46 an46 : Option Addr} {sl46 : Array (Option Value)} {oc46 kV46 dc46 pm46 cd46 ct46 : Value} {f_law_strange : Addr}
    (a46 : PySem.W.nsIn K mainGlobals "_law_strange" = some (some (.ref f_law_strange))) (l46 : K.lookup f_law_strange = some ⟨oc46, od46, .func (PySem.W.fnOf "_law_strange" "_law_strange" (defArgs s_law_strange) (defBody s_law_strange) (defScope s_law_strange) .none kV46 dc46 pm46 an46 cd46 ct46), sl46⟩) (c46 : PySem.W.codeIn K cd46 "_law_strange" = true) (k46 : PySem.W.keepIn K (.ref f_law_strange) = true)
    {od47 an47 : Option Addr} {sl47 : Array (Option Value)} {oc47 kV47 dc47 pm47 cd47 ct47 : Value} {f_law_round : Addr}
    (a47 : PySem.W.nsIn K mainGlobals "_law_round" = some (some (.ref f_law_round))) (l47 : K.lookup f_law_round = some ⟨oc47, od47, .func (PySem.W.fnOf "_law_round" "_law_round" (defArgs s_law_round) (defBody s_law_round) (defScope s_law_round) .none kV47 dc47 pm47 an47 cd47 ct47), sl47⟩) (c47 : PySem.W.codeIn K cd47 "_law_round" = true) (k47 : PySem.W.keepIn K (.ref f_law_round) = true)
    {od48 an48 : Option Addr} {sl48 : Array (Option Value)} {oc48 kV48 dc48 pm48 cd48 ct48 : Value} {f_law : Addr}
    (a48 : PySem.W.nsIn K mainGlobals "law" = some (some (.ref f_law))) (l48 : K.lookup f_law = some ⟨oc48, od48, .func (PySem.W.fnOf "law" "law" (defArgs s_law) (defBody s_law) (defScope s_law) .none kV48 dc48 pm48 an48 cd48 ct48), sl48⟩) (c48 : PySem.W.codeIn K cd48 "law" = true) (k48 : PySem.W.keepIn K (.ref f_law) = true)
    (xj_NoSign : excInI K C_NoSign f_NoSign___init__ = true)
    (zabs : PySem.W.nsIn K mainGlobals "abs" = some none)
    (zlen : PySem.W.nsIn K mainGlobals "len" = some none)
    (zord : PySem.W.nsIn K mainGlobals "ord" = some none)
    (zset : PySem.W.nsIn K mainGlobals "set" = some none)
    (ztuple : PySem.W.nsIn K mainGlobals "tuple" = some none)
    (zzip : PySem.W.nsIn K mainGlobals "zip" = some none)
    (zenumerate : PySem.W.nsIn K mainGlobals "enumerate" = some none)
    (zrange : PySem.W.nsIn K mainGlobals "range" = some none)
    (zisinstance : PySem.W.nsIn K mainGlobals "isinstance" = some none)
    (zint : PySem.W.nsIn K mainGlobals "int" = some none)
    (zbool : PySem.W.nsIn K mainGlobals "bool" = some none)
    (zall : PySem.W.nsIn K mainGlobals "all" = some none)
    (zsum : PySem.W.nsIn K mainGlobals "sum" = some none)
    : ∃ fd : FuncData, (∀ (s : Shared) (v : Value), BindsTo s fd ⟨[v], []⟩ [("_law_script", v)]) ∧ ∀ base : Heap, K.In base → base.Ns mainGlobals mg → FnOk l.prog w K mg base CX0 11 fa fd ["_law_script"] (spLaw K) := by
  have e := hfa.symm.trans (PySem.W.mg_of X G a48)
  cases e
  have T : Txt K mg (⟨t_FIRST_SIGN, t_LAST_SIGN, a_NO_SIGNS, t_GAP, C_Prices, C_Block, C_WeaveError, C_NoBlock, C_NoRow, C_NoSign⟩ : Pm) := ⟨PySem.W.mg_none_of X G zabs, PySem.W.mg_none_of X G zlen, PySem.W.mg_none_of X G zord, PySem.W.mg_none_of X G zset, PySem.W.mg_none_of X G ztuple, PySem.W.mg_none_of X G zzip, PySem.W.mg_none_of X G zenumerate, PySem.W.mg_none_of X G zrange, PySem.W.mg_none_of X G zisinstance, PySem.W.mg_none_of X G zint, PySem.W.mg_none_of X G zbool, PySem.W.mg_none_of X G zall, PySem.W.mg_none_of X G zsum, PySem.W.mg_of X G g_FIRST_SIGN, PySem.W.mg_of X G g_LAST_SIGN, PySem.W.mg_of X G g_NO_SIGNS, fun H => .inr ⟨_, _, _, l_NO_SIGNS, rfl, rfl, (by show 3 ≤ sizeLine; decide), .cons ⟨_, rfl⟩ (.cons ⟨_, rfl⟩ (.cons ⟨_, rfl⟩ (.nil)))⟩, PySem.W.mg_of X G g_GAP, PySem.W.mg_of X G aC_Prices, ⟨pg_Prices, hd_Prices, po_Prices, sa_Prices⟩, nA_Prices_signs, nA_Prices_pairs, nA_Prices_opening, nA_Prices_more, nA_Prices_factors, nA_Prices_unit, nA_Prices_costs, nA_Prices_opening_units, nA_Prices_more_units, PySem.W.mg_of X G aC_Block, ⟨pg_Block, hd_Block, po_Block, sa_Block⟩, nA_Block_rows, PySem.W.mg_of X G aC_WeaveError, ⟨b1_WeaveError, b2_WeaveError, b3_WeaveError⟩, PySem.W.mg_of X G aC_NoBlock, xcls_of xi_NoBlock, ⟨y0_NoBlock, y1_NoBlock, y2_NoBlock, y3_NoBlock, y4_NoBlock, y5_NoBlock, y6_NoBlock, y7_NoBlock⟩, PySem.W.mg_of X G aC_NoRow, PySem.W.mg_of X G aC_NoSign, ⟨y0_NoSign, y1_NoSign, y2_NoSign, y3_NoSign, y4_NoSign, y5_NoSign, y6_NoSign, y7_NoSign⟩, ⟨u1_NoSign, u2_NoSign, u3_NoSign⟩, ⟨_, xclsI_of xj_NoSign⟩, nA_NoSign_row, nA_NoSign_place, ⟨w1_WeaveError, w2_WeaveError, w3_WeaveError⟩, ks_NoSign_WeaveError, ki_NoSign_NoSign, ki_NoSign_NoBlock, ki_NoSign_NoRow⟩
  have F_NoSign___init__ := fun_mk (st := s_NoSign___init__) l0 c0 k0
  have D_NoSign___init__ : Dm K "__init__" "NoSign.__init__" s_NoSign___init__ ["self", "row", "place"] _ _ := ⟨F_NoSign___init__, F_NoSign___init__.binds (ps := ["self", "row", "place"]) fun _ _ _ _ _ _ us hl => by obtain ⟨_, _, _, rfl⟩ := GP.len3 hl; exact rfl⟩
  have F_greatest_divisor := fun_mk (st := s_greatest_divisor) l1 c1 k1
  have D_greatest_divisor : Dn K mg "greatest_divisor" s_greatest_divisor ["one", "other"] _ _ := ⟨F_greatest_divisor, F_greatest_divisor.binds (ps := ["one", "other"]) fun _ _ _ _ _ _ us hl => by obtain ⟨_, _, rfl⟩ := GP.len2 hl; exact rfl, PySem.W.mg_of X G a1⟩
  have F_lowest := fun_mk (st := s_lowest) l2 c2 k2
  have D_lowest : Dn K mg "lowest" s_lowest ["fraction"] _ _ := ⟨F_lowest, F_lowest.binds (ps := ["fraction"]) fun _ _ _ _ _ _ us hl => by obtain ⟨_, rfl⟩ := GP.len1 hl; exact rfl, PySem.W.mg_of X G a2⟩
  have F_is_sign := fun_mk (st := s_is_sign) l3 c3 k3
  have D_is_sign : Dn K mg "is_sign" s_is_sign ["sign"] _ _ := ⟨F_is_sign, F_is_sign.binds (ps := ["sign"]) fun _ _ _ _ _ _ us hl => by obtain ⟨_, rfl⟩ := GP.len1 hl; exact rfl, PySem.W.mg_of X G a3⟩
  have F_are_signs := fun_mk (st := s_are_signs) l4 c4 k4
  have D_are_signs : Dn K mg "are_signs" s_are_signs ["text"] _ _ := ⟨F_are_signs, F_are_signs.binds (ps := ["text"]) fun _ _ _ _ _ _ us hl => by obtain ⟨_, rfl⟩ := GP.len1 hl; exact rfl, PySem.W.mg_of X G a4⟩
  have F_check_signs := fun_mk (st := s_check_signs) l5 c5 k5
  have D_check_signs : Dn K mg "check_signs" s_check_signs ["signs"] _ _ := ⟨F_check_signs, F_check_signs.binds (ps := ["signs"]) fun _ _ _ _ _ _ us hl => by obtain ⟨_, rfl⟩ := GP.len1 hl; exact rfl, PySem.W.mg_of X G a5⟩
  have F_check_lengths_prices := fun_mk (st := s_check_lengths_prices) l6 c6 k6
  have D_check_lengths_prices : Da K mg "check_lengths_prices" "check_lengths" s_check_lengths_prices ["signs", "pairs"] _ _ := ⟨F_check_lengths_prices, F_check_lengths_prices.binds (ps := ["signs", "pairs"]) fun _ _ _ _ _ _ us hl => by obtain ⟨_, _, rfl⟩ := GP.len2 hl; exact rfl, PySem.W.mg_of X G a6⟩
  have F_lowest_price := fun_mk (st := s_lowest_price) l7 c7 k7
  have D_lowest_price : Dn K mg "lowest_price" s_lowest_price ["price"] _ _ := ⟨F_lowest_price, F_lowest_price.binds (ps := ["price"]) fun _ _ _ _ _ _ us hl => by obtain ⟨_, rfl⟩ := GP.len1 hl; exact rfl, PySem.W.mg_of X G a7⟩
  have F_lowest_prices := fun_mk (st := s_lowest_prices) l8 c8 k8
  have D_lowest_prices : Dn K mg "lowest_prices" s_lowest_prices ["row"] _ _ := ⟨F_lowest_prices, F_lowest_prices.binds (ps := ["row"]) fun _ _ _ _ _ _ us hl => by obtain ⟨_, rfl⟩ := GP.len1 hl; exact rfl, PySem.W.mg_of X G a8⟩
  have F_all_unders := fun_mk (st := s_all_unders) l9 c9 k9
  have D_all_unders : Dn K mg "all_unders" s_all_unders ["pairs", "opening", "more"] _ _ := ⟨F_all_unders, F_all_unders.binds (ps := ["pairs", "opening", "more"]) fun _ _ _ _ _ _ us hl => by obtain ⟨_, _, _, rfl⟩ := GP.len3 hl; exact rfl, PySem.W.mg_of X G a9⟩
  have F_unit_factors := fun_mk (st := s_unit_factors) l10 c10 k10
  have D_unit_factors : Dn K mg "unit_factors" s_unit_factors ["unders"] _ _ := ⟨F_unit_factors, F_unit_factors.binds (ps := ["unders"]) fun _ _ _ _ _ _ us hl => by obtain ⟨_, rfl⟩ := GP.len1 hl; exact rfl, PySem.W.mg_of X G a10⟩
  have F_product_of := fun_mk (st := s_product_of) l11 c11 k11
  have D_product_of : Dn K mg "product_of" s_product_of ["factors"] _ _ := ⟨F_product_of, F_product_of.binds (ps := ["factors"]) fun _ _ _ _ _ _ us hl => by obtain ⟨_, rfl⟩ := GP.len1 hl; exact rfl, PySem.W.mg_of X G a11⟩
  have F_by_unit := fun_mk (st := s_by_unit) l12 c12 k12
  have D_by_unit : Dn K mg "by_unit" s_by_unit ["price", "unit"] _ _ := ⟨F_by_unit, F_by_unit.binds (ps := ["price", "unit"]) fun _ _ _ _ _ _ us hl => by obtain ⟨_, _, rfl⟩ := GP.len2 hl; exact rfl, PySem.W.mg_of X G a12⟩
  have F_costs_by_signs := fun_mk (st := s_costs_by_signs) l13 c13 k13
  have D_costs_by_signs : Dn K mg "costs_by_signs" s_costs_by_signs ["signs", "pairs", "unit"] _ _ := ⟨F_costs_by_signs, F_costs_by_signs.binds (ps := ["signs", "pairs", "unit"]) fun _ _ _ _ _ _ us hl => by obtain ⟨_, _, _, rfl⟩ := GP.len3 hl; exact rfl, PySem.W.mg_of X G a13⟩
  have F_Prices___init__ := fun_mk (st := s_Prices___init__) l14 c14 k14
  have D_Prices___init__ : Dm K "__init__" "Prices.__init__" s_Prices___init__ ["self", "signs", "pairs", "opening", "more"] _ _ := ⟨F_Prices___init__, F_Prices___init__.binds (ps := ["self", "signs", "pairs", "opening", "more"]) fun _ _ _ _ _ _ us hl => by obtain ⟨_, _, _, _, _, rfl⟩ := GP.len5 hl; exact rfl⟩
  have F_pair_cost := fun_mk (st := s_pair_cost) l15 c15 k15
  have D_pair_cost : Dn K mg "pair_cost" s_pair_cost ["prices", "one", "other"] _ _ := ⟨F_pair_cost, F_pair_cost.binds (ps := ["prices", "one", "other"]) fun _ _ _ _ _ _ us hl => by obtain ⟨_, _, _, rfl⟩ := GP.len3 hl; exact rfl, PySem.W.mg_of X G a15⟩
  have F_more_cost := fun_mk (st := s_more_cost) l16 c16 k16
  have D_more_cost : Dn K mg "more_cost" s_more_cost ["prices"] _ _ := ⟨F_more_cost, F_more_cost.binds (ps := ["prices"]) fun _ _ _ _ _ _ us hl => by obtain ⟨_, rfl⟩ := GP.len1 hl; exact rfl, PySem.W.mg_of X G a16⟩
  have F_in_units := fun_mk (st := s_in_units) l17 c17 k17
  have D_in_units : Dn K mg "in_units" s_in_units ["prices", "number"] _ _ := ⟨F_in_units, F_in_units.binds (ps := ["prices", "number"]) fun _ _ _ _ _ _ us hl => by obtain ⟨_, _, rfl⟩ := GP.len2 hl; exact rfl, PySem.W.mg_of X G a17⟩
  have F_check_known := fun_mk (st := s_check_known) l18 c18 k18
  have D_check_known : Dn K mg "check_known" s_check_known ["known", "rows"] _ _ := ⟨F_check_known, F_check_known.binds (ps := ["known", "rows"]) fun _ _ _ _ _ _ us hl => by obtain ⟨_, _, rfl⟩ := GP.len2 hl; exact rfl, PySem.W.mg_of X G a18⟩
  have F_things_at := fun_mk (st := s_things_at) l19 c19 k19
  have D_things_at : Dn K mg "things_at" s_things_at ["texts", "place"] _ _ := ⟨F_things_at, F_things_at.binds (ps := ["texts", "place"]) fun _ _ _ _ _ _ us hl => by obtain ⟨_, _, rfl⟩ := GP.len2 hl; exact rfl, PySem.W.mg_of X G a19⟩
  have F_turned := fun_mk (st := s_turned) l20 c20 k20
  have D_turned : Dn K mg "turned" s_turned ["texts", "many"] _ _ := ⟨F_turned, F_turned.binds (ps := ["texts", "many"]) fun _ _ _ _ _ _ us hl => by obtain ⟨_, _, rfl⟩ := GP.len2 hl; exact rfl, PySem.W.mg_of X G a20⟩
  have F_columns_of := fun_mk (st := s_columns_of) l21 c21 k21
  have D_columns_of : Dn K mg "columns_of" s_columns_of ["rows"] _ _ := ⟨F_columns_of, F_columns_of.binds (ps := ["rows"]) fun _ _ _ _ _ _ us hl => by obtain ⟨_, rfl⟩ := GP.len1 hl; exact rfl, PySem.W.mg_of X G a21⟩
  have F_is_gaps := fun_mk (st := s_is_gaps) l22 c22 k22
  have D_is_gaps : Dn K mg "is_gaps" s_is_gaps ["column"] _ _ := ⟨F_is_gaps, F_is_gaps.binds (ps := ["column"]) fun _ _ _ _ _ _ us hl => by obtain ⟨_, rfl⟩ := GP.len1 hl; exact rfl, PySem.W.mg_of X G a22⟩
  have F_signs_of := fun_mk (st := s_signs_of) l23 c23 k23
  have D_signs_of : Dn K mg "signs_of" s_signs_of ["things"] _ _ := ⟨F_signs_of, F_signs_of.binds (ps := ["things"]) fun _ _ _ _ _ _ us hl => by obtain ⟨_, rfl⟩ := GP.len1 hl; exact rfl, PySem.W.mg_of X G a23⟩
  have F_check_lengths_blocks := fun_mk (st := s_check_lengths_blocks) l24 c24 k24
  have D_check_lengths_blocks : Da K mg "check_lengths_blocks" "check_lengths" s_check_lengths_blocks ["rows"] _ _ := ⟨F_check_lengths_blocks, F_check_lengths_blocks.binds (ps := ["rows"]) fun _ _ _ _ _ _ us hl => by obtain ⟨_, rfl⟩ := GP.len1 hl; exact rfl, PySem.W.mg_of X G a24⟩
  have F_are_things := fun_mk (st := s_are_things) l25 c25 k25
  have D_are_things : Dn K mg "are_things" s_are_things ["row"] _ _ := ⟨F_are_things, F_are_things.binds (ps := ["row"]) fun _ _ _ _ _ _ us hl => by obtain ⟨_, rfl⟩ := GP.len1 hl; exact rfl, PySem.W.mg_of X G a25⟩
  have F_check_things := fun_mk (st := s_check_things) l26 c26 k26
  have D_check_things : Dn K mg "check_things" s_check_things ["rows"] _ _ := ⟨F_check_things, F_check_things.binds (ps := ["rows"]) fun _ _ _ _ _ _ us hl => by obtain ⟨_, rfl⟩ := GP.len1 hl; exact rfl, PySem.W.mg_of X G a26⟩
  have F_check_columns := fun_mk (st := s_check_columns) l27 c27 k27
  have D_check_columns : Dn K mg "check_columns" s_check_columns ["rows"] _ _ := ⟨F_check_columns, F_check_columns.binds (ps := ["rows"]) fun _ _ _ _ _ _ us hl => by obtain ⟨_, rfl⟩ := GP.len1 hl; exact rfl, PySem.W.mg_of X G a27⟩
  have F_Block___init__ := fun_mk (st := s_Block___init__) l28 c28 k28
  have D_Block___init__ : Dm K "__init__" "Block.__init__" s_Block___init__ ["self", "rows"] _ _ := ⟨F_Block___init__, F_Block___init__.binds (ps := ["self", "rows"]) fun _ _ _ _ _ _ us hl => by obtain ⟨_, _, rfl⟩ := GP.len2 hl; exact rfl⟩
  have F_check_block_rows := fun_mk (st := s_check_block_rows) l29 c29 k29
  have D_check_block_rows : Dn K mg "check_block_rows" s_check_block_rows ["prices", "rows"] _ _ := ⟨F_check_block_rows, F_check_block_rows.binds (ps := ["prices", "rows"]) fun _ _ _ _ _ _ us hl => by obtain ⟨_, _, rfl⟩ := GP.len2 hl; exact rfl, PySem.W.mg_of X G a29⟩
  have F_thing_cost := fun_mk (st := s_thing_cost) l30 c30 k30
  have D_thing_cost : Dn K mg "thing_cost" s_thing_cost ["prices", "one", "other"] _ _ := ⟨F_thing_cost, F_thing_cost.binds (ps := ["prices", "one", "other"]) fun _ _ _ _ _ _ us hl => by obtain ⟨_, _, _, rfl⟩ := GP.len3 hl; exact rfl, PySem.W.mg_of X G a30⟩
  have F_column_cost := fun_mk (st := s_column_cost) l31 c31 k31
  have D_column_cost : Dn K mg "column_cost" s_column_cost ["prices", "column"] _ _ := ⟨F_column_cost, F_column_cost.binds (ps := ["prices", "column"]) fun _ _ _ _ _ _ us hl => by obtain ⟨_, _, rfl⟩ := GP.len2 hl; exact rfl, PySem.W.mg_of X G a31⟩
  have F_block_units := fun_mk (st := s_block_units) l32 c32 k32
  have D_block_units : Dn K mg "block_units" s_block_units ["prices", "block"] _ _ := ⟨F_block_units, F_block_units.binds (ps := ["prices", "block"]) fun _ _ _ _ _ _ us hl => by obtain ⟨_, _, rfl⟩ := GP.len2 hl; exact rfl, PySem.W.mg_of X G a32⟩
  have F_block_cost := fun_mk (st := s_block_cost) l33 c33 k33
  have D_block_cost : Dn K mg "block_cost" s_block_cost ["prices", "block"] _ _ := ⟨F_block_cost, F_block_cost.binds (ps := ["prices", "block"]) fun _ _ _ _ _ _ us hl => by obtain ⟨_, _, rfl⟩ := GP.len2 hl; exact rfl, PySem.W.mg_of X G a33⟩
  have F_law_next := fun_mk (st := s_law_next) l34 c34 k34
  have D_law_next : Dn K mg "_law_next" s_law_next ["_law_script", "_law_at"] _ _ := ⟨F_law_next, F_law_next.binds (ps := ["_law_script", "_law_at"]) fun _ _ _ _ _ _ us hl => by obtain ⟨_, _, rfl⟩ := GP.len2 hl; exact rfl, PySem.W.mg_of X G a34⟩
  have F_law_signs := fun_mk (st := s_law_signs) l35 c35 k35
  have D_law_signs : Dn K mg "_law_signs" s_law_signs ["_law_script", "_law_at", "_law_many"] _ _ := ⟨F_law_signs, F_law_signs.binds (ps := ["_law_script", "_law_at", "_law_many"]) fun _ _ _ _ _ _ us hl => by obtain ⟨_, _, _, rfl⟩ := GP.len3 hl; exact rfl, PySem.W.mg_of X G a35⟩
  have F_law_price := fun_mk (st := s_law_price) l36 c36 k36
  have D_law_price : Dn K mg "_law_price" s_law_price ["_law_script", "_law_at"] _ _ := ⟨F_law_price, F_law_price.binds (ps := ["_law_script", "_law_at"]) fun _ _ _ _ _ _ us hl => by obtain ⟨_, _, rfl⟩ := GP.len2 hl; exact rfl, PySem.W.mg_of X G a36⟩
  have F_law_prices := fun_mk (st := s_law_prices) l37 c37 k37
  have D_law_prices : Dn K mg "_law_prices" s_law_prices ["_law_script", "_law_at", "_law_signs_here", "_law_same"] _ _ := ⟨F_law_prices, F_law_prices.binds (ps := ["_law_script", "_law_at", "_law_signs_here", "_law_same"]) fun _ _ _ _ _ _ us hl => by obtain ⟨_, _, _, _, rfl⟩ := GP.len4 hl; exact rfl, PySem.W.mg_of X G a37⟩
  have F_law_column := fun_mk (st := s_law_column) l38 c38 k38
  have D_law_column : Dn K mg "_law_column" s_law_column ["_law_script", "_law_at", "_law_signs_here", "_law_many"] _ _ := ⟨F_law_column, F_law_column.binds (ps := ["_law_script", "_law_at", "_law_signs_here", "_law_many"]) fun _ _ _ _ _ _ us hl => by obtain ⟨_, _, _, _, rfl⟩ := GP.len4 hl; exact rfl, PySem.W.mg_of X G a38⟩
  have F_law_rows := fun_mk (st := s_law_rows) l39 c39 k39
  have D_law_rows : Dn K mg "_law_rows" s_law_rows ["_law_script", "_law_at", "_law_signs_here", "_law_many", "_law_columns"] _ _ := ⟨F_law_rows, F_law_rows.binds (ps := ["_law_script", "_law_at", "_law_signs_here", "_law_many", "_law_columns"]) fun _ _ _ _ _ _ us hl => by obtain ⟨_, _, _, _, _, rfl⟩ := GP.len5 hl; exact rfl, PySem.W.mg_of X G a39⟩
  have F_law_thing := fun_mk (st := s_law_thing) l40 c40 k40
  have D_law_thing : Dn K mg "_law_thing" s_law_thing ["_law_prices_here", "_law_one", "_law_other"] _ _ := ⟨F_law_thing, F_law_thing.binds (ps := ["_law_prices_here", "_law_one", "_law_other"]) fun _ _ _ _ _ _ us hl => by obtain ⟨_, _, _, rfl⟩ := GP.len3 hl; exact rfl, PySem.W.mg_of X G a40⟩
  have F_law_cost := fun_mk (st := s_law_cost) l41 c41 k41
  have D_law_cost : Dn K mg "_law_cost" s_law_cost ["_law_prices_here", "_law_rows_here"] _ _ := ⟨F_law_cost, F_law_cost.binds (ps := ["_law_prices_here", "_law_rows_here"]) fun _ _ _ _ _ _ us hl => by obtain ⟨_, _, rfl⟩ := GP.len2 hl; exact rfl, PySem.W.mg_of X G a41⟩
  have F_law_whole := fun_mk (st := s_law_whole) l42 c42 k42
  have D_law_whole : Dn K mg "_law_whole" s_law_whole ["_law_found"] _ _ := ⟨F_law_whole, F_law_whole.binds (ps := ["_law_found"]) fun _ _ _ _ _ _ us hl => by obtain ⟨_, rfl⟩ := GP.len1 hl; exact rfl, PySem.W.mg_of X G a42⟩
  have F_law_is_cost := fun_mk (st := s_law_is_cost) l43 c43 k43
  have D_law_is_cost : Dn K mg "_law_is_cost" s_law_is_cost ["_law_prices_here", "_law_found", "_law_units"] _ _ := ⟨F_law_is_cost, F_law_is_cost.binds (ps := ["_law_prices_here", "_law_found", "_law_units"]) fun _ _ _ _ _ _ us hl => by obtain ⟨_, _, _, rfl⟩ := GP.len3 hl; exact rfl, PySem.W.mg_of X G a43⟩
  have F_law_with := fun_mk (st := s_law_with) l44 c44 k44
  have D_law_with : Dn K mg "_law_with" s_law_with ["_law_row", "_law_k", "_law_thing_here"] _ _ := ⟨F_law_with, F_law_with.binds (ps := ["_law_row", "_law_k", "_law_thing_here"]) fun _ _ _ _ _ _ us hl => by obtain ⟨_, _, _, rfl⟩ := GP.len3 hl; exact rfl, PySem.W.mg_of X G a44⟩
  have F_law_refused := fun_mk (st := s_law_refused) l45 c45 k45
  have D_law_refused : Dn K mg "_law_refused" s_law_refused ["_law_prices_here", "_law_rows_here"] _ _ := ⟨F_law_refused, F_law_refused.binds (ps := ["_law_prices_here", "_law_rows_here"]) fun _ _ _ _ _ _ us hl => by obtain ⟨_, _, rfl⟩ := GP.len2 hl; exact rfl, PySem.W.mg_of X G a45⟩
  have F_law_strange := fun_mk (st := s_law_strange) l46 c46 k46
  have D_law_strange : Dn K mg "_law_strange" s_law_strange ["_law_rows_here", "_law_signs_here"] _ _ := ⟨F_law_strange, F_law_strange.binds (ps := ["_law_rows_here", "_law_signs_here"]) fun _ _ _ _ _ _ us hl => by obtain ⟨_, _, rfl⟩ := GP.len2 hl; exact rfl, PySem.W.mg_of X G a46⟩
  have F_law_round := fun_mk (st := s_law_round) l47 c47 k47
  have D_law_round : Dn K mg "_law_round" s_law_round ["_law_script", "_law_at"] _ _ := ⟨F_law_round, F_law_round.binds (ps := ["_law_script", "_law_at"]) fun _ _ _ _ _ _ us hl => by obtain ⟨_, _, rfl⟩ := GP.len2 hl; exact rfl, PySem.W.mg_of X G a47⟩
  have F_law := fun_mk (st := s_law) l48 c48 k48
  have D_law : Dn K mg "law" s_law ["_law_script"] _ _ := ⟨F_law, F_law.binds (ps := ["_law_script"]) fun _ _ _ _ _ _ us hl => by obtain ⟨_, rfl⟩ := GP.len1 hl; exact rfl, PySem.W.mg_of X G a48⟩
  exact ⟨PySem.W.fnOf "law" "law" (defArgs s_law) (defBody s_law) (defScope s_law) .none kV48 dc48 pm48 an48 cd48 ct48, fun s v => .of_eq rfl, fun base _ _ => law_ok (p := (⟨t_FIRST_SIGN, t_LAST_SIGN, a_NO_SIGNS, t_GAP, C_Prices, C_Block, C_WeaveError, C_NoBlock, C_NoRow, C_NoSign⟩ : Pm)) T D_NoSign___init__ D_greatest_divisor D_lowest D_is_sign D_are_signs D_check_signs D_check_lengths_prices D_lowest_price D_lowest_prices D_all_unders D_unit_factors D_product_of D_by_unit D_costs_by_signs D_Prices___init__ D_pair_cost D_more_cost D_in_units D_check_known D_things_at D_turned D_columns_of D_is_gaps D_signs_of D_check_lengths_blocks D_are_things D_check_things D_check_columns D_Block___init__ D_check_block_rows D_thing_cost D_column_cost D_block_units D_block_cost D_law_next D_law_signs D_law_price D_law_prices D_law_column D_law_rows D_law_thing D_law_cost D_law_whole D_law_is_cost D_law_with D_law_refused D_law_strange D_law_round D_law ⟨xclsI_of xj_NoSign, i0, kc_NoSign⟩ ⟨mk_Prices, a14, i14, kc_Prices⟩ ⟨mk_Block, a28, i28, kc_Block⟩⟩
theorem walk {l : PySem.W.OpenLaw} {q : Program} {loose : List Str} {XP : (Str → Option Value) → Heap → Prop} {as : List Addr} {N t : Nat} {d : DefRec} {K : Params → PySem.W.Frag} (hn : l.most = some 63) (hdf : d.params.defaults = [])
    (hk : ∀ P, as = (K P).map (·.1)) (ht : ∀ P, tokAll (K P) t = true)
    (F : ∀ (w : World) (mg : Str → Option Value) (fa : Addr) (h : Heap), (K w.params).In h → h.Ns mainGlobals mg → mg d.name = some (.ref fa) →
      ∃ fd : FuncData, (∀ (s : Shared) (u : Value), BindsTo s fd ⟨[u], []⟩ [("_law_script", u)]) ∧ ∀ base : Heap, (K w.params).In base → base.Ns mainGlobals mg → FnOk l.prog w (K w.params) mg base CX0 11 fa fd ["_law_script"] (spLaw (K w.params))) :
    PySem.W.WalkX q loose XP (PySem.W.X.obsZ as) (PySem.W.X.valZ K N t) l.row.toRowW d [] (fun f vs => PySem.call f vs) :=
  L2.walk_ofZ (n := 63) (k := 11) (x := "_law_script") (CX := fun _ => CX0) (sp := fun w => spLaw (K w.params)) hn (by decide) hdf ⟨rfl, by decide, by decide⟩ hk ht F (fun _ _ a ns hl _ hS => ⟨a, ns, rfl, hS, hl, fun _ => rfl⟩) fun _ _ _ _ _ z => z
end G41
theorem PySem.W.Fast.tw107251883595688897 : True := trivial
theorem PySem.W.Fast.tw10974322214801836169 : True := trivial
theorem PySem.W.Fast.tw10283961652628152679 : True := trivial
theorem PySem.W.Fast.tw787933611454858997 : True := trivial
theorem PySem.W.Fast.tw320133624067777675 : True := trivial
theorem PySem.W.Fast.tw17067505766681559169 : True := trivial
theorem PySem.W.Fast.tw5812525953138927600 : True := trivial
theorem PySem.W.Fast.tw7656853631809457235 : True := trivial
theorem PySem.W.Fast.tw2461580487996735066 : True := trivial
theorem PySem.W.Fast.tw7777043305027037498 : True := trivial
theorem PySem.W.Fast.tw9651404331271344621 : True := trivial
theorem PySem.W.Fast.tw3787966126324287696 : True := trivial
theorem PySem.W.Fast.tw14284717200805181958 : True := trivial
theorem PySem.W.Fast.tw9323123349203432653 : True := trivial
theorem PySem.W.Fast.tw532072513644882072 : True := trivial
theorem PySem.W.Fast.tw283008317221723058 : True := trivial
theorem PySem.W.Fast.tw5251420050006993637 : True := trivial
theorem PySem.W.Fast.tw10809730561271601686 : True := trivial
theorem PySem.W.Fast.tw9339518157926914584 : True := trivial
theorem PySem.W.Fast.tw13158454313816618527 : True := trivial
theorem PySem.W.Fast.tw4214604722443430305 : True := trivial
theorem PySem.W.Fast.tw7703356027610972250 : True := trivial
theorem PySem.W.Fast.tw1813163827376296876 : True := trivial
theorem PySem.W.Fast.tw9856469386230549801 : True := trivial
theorem PySem.W.Fast.tw5028563732260711964 : True := trivial
theorem PySem.W.Fast.tw16796612744917747807 : True := trivial
theorem PySem.W.Fast.tw1296733667012752141 : True := trivial
theorem PySem.W.Fast.tw11617781972697695742 : True := trivial
theorem PySem.W.Fast.tw8630299396472675738 : True := trivial
theorem PySem.W.Fast.tw15393740772713746753 : True := trivial
theorem PySem.W.Fast.tw18342337388545286695 : True := trivial
theorem PySem.W.Fast.tw4856831808818345334 : True := trivial
theorem PySem.W.Fast.tw17703062738175851995 : True := trivial
theorem PySem.W.Fast.tw194075694199045192 : True := trivial
theorem PySem.W.Fast.tw3083619298841706564 : True := trivial
theorem PySem.W.Fast.tw13845666477451168375 : True := trivial
theorem PySem.W.Fast.tw4616558454960870936 : True := trivial
theorem PySem.W.Fast.tw13102478433507331024 : True := trivial
theorem PySem.W.Fast.tw12002003246674113132 : True := trivial
theorem PySem.W.Fast.tw4879028556315857990 : True := trivial
theorem PySem.W.Fast.tw2623394334177389267 : True := trivial
theorem PySem.W.Fast.tw10168057097989719278 : True := trivial
theorem PySem.W.Fast.tw1961822689077420883 : True := trivial
theorem PySem.W.Fast.tw2109419946306685905 : True := trivial
theorem PySem.W.Fast.tw394779043711295799 : True := trivial
theorem PySem.W.Fast.tw11692606410027077497 : True := trivial
theorem PySem.W.Fast.tw5069944674767439396 : True := trivial
theorem PySem.W.Fast.tw3061234591192621868 : True := trivial
theorem PySem.W.Fast.tw8902439066149352904 : True := trivial
theorem PySem.W.Fast.tw3421876477534744941 : True := trivial
theorem PySem.W.Fast.tw15561482964675340525 : True := trivial
theorem PySem.W.Fast.tw10923173191685106000 : True := trivial
theorem PySem.W.Fast.tw1171734087779356440 : True := trivial
theorem PySem.W.Fast.tw4539869820628446013 : True := trivial
theorem PySem.W.Fast.tw816628960686316597 : True := trivial
theorem PySem.W.Fast.tw3091579167911331362 : True := trivial
theorem PySem.W.Fast.tw14171760793878715502 : True := trivial
theorem PySem.W.Fast.tw9243729694413486792 : True := trivial
theorem PySem.W.Fast.tw15183869111065356727 : True := trivial
theorem PySem.W.Fast.tw4824495973424351977 : True := trivial
theorem PySem.W.Fast.tw9788204355170469268 : True := trivial
theorem PySem.W.Fast.tw7493811352291260220 : True := trivial
theorem PySem.W.Fast.tw13030338937303748546 : True := trivial
theorem PySem.W.Fast.tw16971043192005556396 : True := trivial
theorem PySem.W.Fast.tw15585975970938381315 : True := trivial
theorem PySem.W.Fast.tw12677211839320123171 : True := trivial
theorem PySem.W.Fast.tw17322185577226788950 : True := trivial
theorem PySem.W.Fast.tw9594663863764342412 : True := trivial
theorem PySem.W.Fast.tw1216735851990017627 : True := trivial
theorem PySem.W.Fast.tw3073844301251703922 : True := trivial
theorem PySem.W.Fast.tw10575322969031555961 : True := trivial
theorem PySem.W.Fast.tw13889337872641888894 : True := trivial
theorem PySem.W.Fast.tw16608590998257613503 : True := trivial
theorem PySem.W.Fast.tw12012446342589439410 : True := trivial
theorem PySem.W.Fast.tw6773605122298150660 : True := trivial
theorem PySem.W.Fast.tw6720605256270875970 : True := trivial
theorem PySem.W.Fast.tw11887942130757711886 : True := trivial
theorem PySem.W.Fast.tw16638465154294773228 : True := trivial
theorem PySem.W.Fast.tw3965066019664947804 : True := trivial
theorem PySem.W.Fast.tw12393248497861686514 : True := trivial
theorem PySem.W.Fast.tw11611314237310785459 : True := trivial
theorem PySem.W.Fast.tw16177153116936010263 : True := trivial
theorem PySem.W.Fast.tw332476915967549 : True := trivial
theorem PySem.W.Fast.tw17752194140946895495 : True := trivial
theorem PySem.W.Fast.tw6093346190939831124 : True := trivial
theorem PySem.W.Fast.tw4353174117070105054 : True := trivial
theorem PySem.W.Fast.tw10445530675102423646 : True := trivial
theorem PySem.W.Fast.tw3476840023498030278 : True := trivial
theorem PySem.W.Fast.tw118146010264098394 : True := trivial
theorem PySem.W.Fast.tw17385083412788424791 : True := trivial
theorem PySem.W.Fast.tw6028121622418172241 : True := trivial
theorem PySem.W.Fast.tw7750322927129690142 : True := trivial
theorem PySem.W.Fast.tw129051678137639417 : True := trivial
theorem PySem.W.Fast.tw14052929045010555139 : True := trivial
theorem PySem.W.Fast.tw16754919236444540902 : True := trivial
theorem PySem.W.Fast.tw16581962118638013505 : True := trivial
theorem PySem.W.Fast.tw16376454074978830479 : True := trivial
theorem PySem.W.Fast.tw12086884813280596702 : True := trivial
theorem PySem.W.Fast.tw9174854107279439954 : True := trivial
theorem PySem.W.Fast.tw6086288346055485219 : True := trivial
theorem PySem.W.Fast.tw5206568832868595860 : True := trivial
theorem PySem.W.Fast.tw8988088478852786460 : True := trivial
theorem PySem.W.Fast.tw17387763561086447677 : True := trivial
theorem PySem.W.Fast.tw15399090462966524704 : True := trivial
theorem PySem.W.Fast.tw17692751339949878925 : True := trivial
theorem PySem.W.Fast.tw8408300686421882925 : True := trivial
theorem PySem.W.Fast.tw5040026561806525949 : True := trivial
theorem PySem.W.Fast.tw16987388321663669525 : True := trivial
theorem PySem.W.Fast.tw17482122027327742052 : True := trivial
theorem PySem.W.Fast.tw15639876597163245693 : True := trivial
theorem PySem.W.Fast.tw17263782941524091459 : True := trivial
theorem PySem.W.Fast.tw13088849077167649351 : True := trivial
theorem PySem.W.Fast.tw10289272351237887944 : True := trivial
theorem PySem.W.Fast.tw6124009693021950896 : True := trivial
theorem PySem.W.Fast.tw13522554134922715235 : True := trivial
theorem PySem.W.Fast.tw1429351058285919688 : True := trivial
theorem PySem.W.Fast.tw3715186885349786709 : True := trivial
theorem PySem.W.Fast.tw5250256410356151795 : True := trivial
theorem PySem.W.Fast.tw11516344115702612195 : True := trivial
theorem PySem.W.Fast.tw15224416986745657758 : True := trivial
theorem PySem.W.Fast.tw4173675236898440764 : True := trivial
theorem PySem.W.Fast.tw4811574038367751722 : True := trivial
theorem PySem.W.Fast.tw13868322944404523775 : True := trivial
theorem PySem.W.Fast.tw2837265635608684943 : True := trivial
theorem PySem.W.Fast.tw7534626694342945960 : True := trivial
theorem PySem.W.Fast.tw12265262516508883339 : True := trivial
theorem PySem.W.Fast.tw17835961547012428777 : True := trivial
theorem PySem.W.Fast.tw10003027293397951785 : True := trivial
theorem PySem.W.Fast.tw5551453240143923381 : True := trivial
theorem PySem.W.Fast.tw14156997353657017954 : True := trivial
theorem PySem.W.Fast.tw866608595862807388 : True := trivial
theorem PySem.W.Fast.tw6755223838626954149 : True := trivial
theorem PySem.W.Fast.tw14049625932899640941 : True := trivial
theorem PySem.W.Fast.tw3210322711886892851 : True := trivial
theorem PySem.W.Fast.tw11757672954682680660 : True := trivial
theorem PySem.W.Fast.tw6567658818503138466 : True := trivial
theorem PySem.W.Fast.tw9151849894714933468 : True := trivial
theorem PySem.W.Fast.tw3383071032405568989 : True := trivial
theorem PySem.W.Fast.tw11546504605032845334 : True := trivial
theorem PySem.W.Fast.tw3225883164640141374 : True := trivial
theorem PySem.W.Fast.tw14199073408269056823 : True := trivial
theorem PySem.W.Fast.tw6196898224847644579 : True := trivial
theorem PySem.W.Fast.tw8105346417877891024 : True := trivial
theorem PySem.W.Fast.tw5599818227302364934 : True := trivial
theorem PySem.W.Fast.tw7282800773421622397 : True := trivial
theorem PySem.W.Fast.tw5798352749834332098 : True := trivial
theorem PySem.W.Fast.tw4596484071068206827 : True := trivial
theorem PySem.W.Fast.tw17579888256110087618 : True := trivial
theorem PySem.W.Fast.tw10071157073870768347 : True := trivial
theorem PySem.W.Fast.tw4857064970355344051 : True := trivial
theorem PySem.W.Fast.tw17765808206406119798 : True := trivial
theorem PySem.W.Fast.tw1411693796244231606 : True := trivial
theorem PySem.W.Fast.tw6546666699350892519 : True := trivial
theorem PySem.W.Fast.tw2773843776496517573 : True := trivial
theorem PySem.W.Fast.tw7654559566884770576 : True := trivial
theorem PySem.W.Fast.tw3780931352804311482 : True := trivial
theorem PySem.W.Fast.tw13139808491352220853 : True := trivial
theorem PySem.W.Fast.tw2811393383482963334 : True := trivial
theorem PySem.W.Fast.tw17400068914196297528 : True := trivial
theorem PySem.W.Fast.tw16080437570290345663 : True := trivial
theorem PySem.W.Fast.tw2344714004249251816 : True := trivial
theorem PySem.W.Fast.tw3515817580491037248 : True := trivial
theorem PySem.W.Fast.tw10621161956037872511 : True := trivial
theorem PySem.W.Fast.tw12604007899911168064 : True := trivial
theorem PySem.W.Fast.tw15803076547679277130 : True := trivial
theorem PySem.W.Fast.tw6694445806826100946 : True := trivial
theorem PySem.W.Fast.tw15678812205175157979 : True := trivial
theorem PySem.W.Fast.tw8931350545316325356 : True := trivial
theorem PySem.W.Fast.tw11135121153108797778 : True := trivial
theorem PySem.W.Fast.tw11844830659219974518 : True := trivial
theorem PySem.W.Fast.tw12275352077025805659 : True := trivial
theorem PySem.W.Fast.tw512042755482144751 : True := trivial
theorem PySem.W.Fast.tw13318162996574769905 : True := trivial
theorem PySem.W.Fast.tw2242940218467291375 : True := trivial
theorem PySem.W.Fast.tw14700690706155930515 : True := trivial
theorem PySem.W.Fast.tw1401297904663537502 : True := trivial
theorem PySem.W.Fast.tw5640245460588317757 : True := trivial
theorem PySem.W.Fast.tw17865568193873475596 : True := trivial
theorem PySem.W.Fast.tw15745513924296869489 : True := trivial
theorem PySem.W.Fast.tw13297217387153434062 : True := trivial
theorem PySem.W.Fast.tw3048320005033325904 : True := trivial
theorem PySem.W.Fast.tw5435331948094497271 : True := trivial
theorem PySem.W.Fast.tw8116810425533917137 : True := trivial
theorem PySem.W.Fast.tw14025130365965494518 : True := trivial
theorem PySem.W.Fast.tw15349045308307605513 : True := trivial
theorem PySem.W.Fast.tw11274804641292315769 : True := trivial
theorem PySem.W.Fast.tw17519319025008437372 : True := trivial
theorem PySem.W.Fast.tw1574601168713122409 : True := trivial
theorem PySem.W.Fast.tw1916129593984958445 : True := trivial
theorem PySem.W.Fast.tw12806834115900313746 : True := trivial
theorem PySem.W.Fast.tw3862689076288714452 : True := trivial
theorem PySem.W.Fast.tw4265143758866846215 : True := trivial
theorem PySem.W.Fast.tw1520382640541014167 : True := trivial
theorem PySem.W.Fast.tw13317435859219896389 : True := trivial
theorem PySem.W.Fast.tw12796511522427346868 : True := trivial
theorem PySem.W.Fast.tw5224366938137437903 : True := trivial
theorem PySem.W.Fast.tw13261842638189209124 : True := trivial
theorem PySem.W.Fast.tw17745139809413013299 : True := trivial
theorem PySem.W.Fast.tw5475430011241789301 : True := trivial
theorem PySem.W.Fast.tw8505608013225810513 : True := trivial
theorem PySem.W.Fast.tw5232236017337112981 : True := trivial
theorem PySem.W.Fast.tw16842897171777378320 : True := trivial
theorem PySem.W.Fast.tw15271383727689350142 : True := trivial
theorem PySem.W.Fast.tw6507027724176466384 : True := trivial
theorem PySem.W.Fast.tw1844576641072186773 : True := trivial
theorem PySem.W.Fast.tw1457107540798008541 : True := trivial
theorem PySem.W.Fast.tw829235560720048706 : True := trivial
theorem PySem.W.Fast.tw13132646747192765443 : True := trivial
theorem PySem.W.Fast.tw13165035870810307667 : True := trivial
theorem PySem.W.Fast.tw14963922063628289076 : True := trivial
theorem PySem.W.Fast.tw14400541487898060822 : True := trivial
theorem PySem.W.Fast.tw16884681487849396122 : True := trivial
theorem PySem.W.Fast.tw5229542657135803263 : True := trivial
theorem PySem.W.Fast.tw1926365813036634688 : True := trivial
theorem PySem.W.Fast.tw9769478566884899135 : True := trivial
theorem PySem.W.Fast.tw5604595234309339850 : True := trivial
theorem PySem.W.Fast.tw14823631591589634967 : True := trivial
theorem PySem.W.Fast.tw16326165705309178734 : True := trivial
theorem PySem.W.Fast.tw7737787604686805228 : True := trivial
theorem PySem.W.Fast.tw1862251682256022733 : True := trivial
theorem PySem.W.Fast.tw9329433988778489729 : True := trivial
theorem PySem.W.Fast.tw6252782549785782179 : True := trivial
theorem PySem.W.Fast.tw3367790573328835972 : True := trivial
theorem PySem.W.Fast.tw2972631352239777658 : True := trivial
theorem PySem.W.Fast.tw4322034667253924869 : True := trivial
theorem PySem.W.Fast.tw10582792155286342288 : True := trivial
theorem PySem.W.Fast.tw10902645594195180821 : True := trivial
theorem PySem.W.Fast.tw12853847451499199084 : True := trivial
theorem PySem.W.Fast.tw17071209186965461866 : True := trivial
theorem PySem.W.Fast.tw15315200351514077094 : True := trivial
theorem PySem.W.Fast.tw16091988146684728658 : True := trivial
theorem PySem.W.Fast.tw17194344721928864643 : True := trivial
theorem PySem.W.Fast.tw6239143323146033028 : True := trivial
theorem PySem.W.Fast.tw6646886547988479526 : True := trivial
theorem PySem.W.Fast.tw12951323333247033793 : True := trivial
theorem PySem.W.Fast.tw14105516197934836821 : True := trivial
theorem PySem.W.Fast.tw12967012423838958995 : True := trivial
theorem PySem.W.Fast.tw14737809187435929614 : True := trivial
theorem PySem.W.Fast.tw4109641661469834032 : True := trivial
theorem PySem.W.Fast.tw13589790105139784706 : True := trivial
theorem PySem.W.Fast.tw6618517484322582827 : True := trivial
theorem PySem.W.Fast.tw2068166099921624809 : True := trivial
theorem PySem.W.Fast.tw5245648038798273470 : True := trivial
theorem PySem.W.Fast.tw12346271856277780787 : True := trivial
theorem PySem.W.Fast.tw11152856057136463094 : True := trivial
theorem PySem.W.Fast.tw18119551775481495960 : True := trivial
theorem PySem.W.Fast.tw16247999998106689285 : True := trivial
theorem PySem.W.Fast.tw4077323639880139876 : True := trivial
theorem PySem.W.Fast.tw11645443522741004636 : True := trivial
theorem PySem.W.Fast.tw4090285686081130398 : True := trivial
theorem PySem.W.Fast.tw8813796983820295878 : True := trivial
theorem PySem.W.Fast.tw16456928720909649758 : True := trivial
theorem PySem.W.Fast.tw4775710360770901962 : True := trivial
theorem PySem.W.Fast.tw13788903179599292510 : True := trivial
theorem PySem.W.Fast.tw12172659321981892443 : True := trivial
theorem PySem.W.Fast.tw5481889579942532875 : True := trivial
theorem PySem.W.Fast.tw9804258130503216180 : True := trivial
theorem PySem.W.Fast.tw15854074907282002385 : True := trivial
theorem PySem.W.Fast.tw12645875852653164691 : True := trivial
theorem PySem.W.Fast.tw11978430538914522341 : True := trivial
theorem PySem.W.Fast.tw1883382058014286113 : True := trivial
theorem PySem.W.Fast.tw12573190871661046563 : True := trivial
theorem PySem.W.Fast.tw1205247216638314037 : True := trivial
theorem PySem.W.Fast.tw9923624607434615677 : True := trivial
theorem PySem.W.Fast.tw10892638112080900441 : True := trivial
theorem PySem.W.Fast.tw8687941971407292914 : True := trivial
theorem PySem.W.Fast.tw14068907325445589442 : True := trivial
theorem PySem.W.Fast.tw6249484280024539545 : True := trivial
theorem PySem.W.Fast.tw3488283445905235290 : True := trivial
theorem PySem.W.Fast.tw2220751180509033308 : True := trivial
theorem PySem.W.Fast.tw349029863719104688 : True := trivial
theorem PySem.W.Fast.tw4701731057334638714 : True := trivial
theorem PySem.W.Fast.tw2730431960459630724 : True := trivial
theorem PySem.W.Fast.tw3732260965555375882 : True := trivial
theorem PySem.W.Fast.tw18055948142971109719 : True := trivial
theorem PySem.W.Fast.tw1484426828194637461 : True := trivial
theorem PySem.W.Fast.tw17126595758138586000 : True := trivial
theorem PySem.W.Fast.tw3014853813351614422 : True := trivial
theorem PySem.W.Fast.tw15477063353988877800 : True := trivial
theorem PySem.W.Fast.tw197363466580620375 : True := trivial
theorem PySem.W.Fast.tw4206776706033642158 : True := trivial
theorem PySem.W.Fast.tw7474468697207940734 : True := trivial
theorem PySem.W.Fast.tw343721327927791842 : True := trivial
theorem PySem.W.Fast.tw18110496583996022988 : True := trivial
theorem PySem.W.Fast.tw10402966741422303927 : True := trivial
theorem PySem.W.Fast.tw6404583393483338001 : True := trivial
theorem PySem.W.Fast.tw15363738481846587907 : True := trivial
theorem PySem.W.Fast.tw666782464932313569 : True := trivial
theorem PySem.W.Fast.tw4653270836198972960 : True := trivial
theorem PySem.W.Fast.tw15101512226629772063 : True := trivial
theorem PySem.W.Fast.tw18162986765224425713 : True := trivial
theorem PySem.W.Fast.tw6494852030376353951 : True := trivial
theorem PySem.W.Fast.tw7151342929049111417 : True := trivial
theorem PySem.W.Fast.tw10104154034931018111 : True := trivial
theorem PySem.W.Fast.tw11194965777329985178 : True := trivial
theorem PySem.W.Fast.tw12053775030644275179 : True := trivial
theorem PySem.W.Fast.tw7044922415822056447 : True := trivial
theorem PySem.W.Fast.tw17517235324714802948 : True := trivial
theorem PySem.W.Fast.tw30235120769841040 : True := trivial
theorem PySem.W.Fast.tw6306542249282421410 : True := trivial
theorem PySem.W.Fast.tw12999850215607920092 : True := trivial
theorem PySem.W.Fast.tw966922684000104697 : True := trivial
theorem PySem.W.Fast.tw15935193841848889852 : True := trivial
theorem PySem.W.Fast.tw8066148914731595374 : True := trivial
theorem PySem.W.Fast.tw12467608516311385213 : True := trivial
theorem PySem.W.Fast.tw8082686969713851817 : True := trivial
theorem PySem.W.Fast.tw9590802308891225994 : True := trivial
theorem PySem.W.Fast.tw16426714778871145360 : True := trivial
theorem PySem.W.Fast.tw14826113112996228994 : True := trivial
theorem PySem.W.Fast.tw264167144752303458 : True := trivial
theorem PySem.W.Fast.tw8703455595745121459 : True := trivial
theorem PySem.W.Fast.tw11465111097370859661 : True := trivial
theorem PySem.W.Fast.tw10372138129326824082 : True := trivial
theorem PySem.W.Fast.tw6925322734028572738 : True := trivial
theorem PySem.W.Fast.tw2425661181005437979 : True := trivial
theorem PySem.W.Fast.tw18009329505460070430 : True := trivial
theorem PySem.W.Fast.tw8352774430162022443 : True := trivial
theorem PySem.W.Fast.tw4930953373404433317 : True := trivial
theorem PySem.W.Fast.tw8508591590834842135 : True := trivial
theorem PySem.W.Fast.tw8498214505884415315 : True := trivial
theorem PySem.W.Fast.tw2444390972256659816 : True := trivial
theorem PySem.W.Fast.tw16331222496164103972 : True := trivial
theorem PySem.W.Fast.tw12468421658553028949 : True := trivial
theorem PySem.W.Fast.tw10943865933650001303 : True := trivial
theorem PySem.W.Fast.tw1844138361423125056 : True := trivial
theorem PySem.W.Fast.tw17803181380898119225 : True := trivial
theorem PySem.W.Fast.tw15267999289564713906 : True := trivial
theorem PySem.W.Fast.tw14928195023262945981 : True := trivial
theorem PySem.W.Fast.tw16173747523140427219 : True := trivial
theorem PySem.W.Fast.tw5441097688373111911 : True := trivial
theorem PySem.W.Fast.tw15308849691547732045 : True := trivial
theorem PySem.W.Fast.tw33243596744597827 : True := trivial
theorem PySem.W.Fast.tw7415343560297131067 : True := trivial
theorem PySem.W.Fast.tw3220592344979352083 : True := trivial
theorem PySem.W.Fast.tw13990260198403067679 : True := trivial
theorem PySem.W.Fast.tw7245295122350389285 : True := trivial
theorem PySem.W.Fast.tw7165824801159918399 : True := trivial
theorem PySem.W.Fast.tw15034094650928660100 : True := trivial
theorem PySem.W.Fast.tw14833326281440809845 : True := trivial
theorem PySem.W.Fast.tw11485313684421440625 : True := trivial
theorem PySem.W.Fast.tw18380626055294051957 : True := trivial
theorem PySem.W.Fast.tw2814612270150515813 : True := trivial
theorem PySem.W.Fast.tw3697334104204010010 : True := trivial
theorem PySem.W.Fast.tw12192126383185857001 : True := trivial
theorem PySem.W.Fast.tw15272624780400023786 : True := trivial
theorem PySem.W.Fast.tw3665727798690729110 : True := trivial
theorem PySem.W.Fast.tw2855979406370184262 : True := trivial
theorem PySem.W.Fast.tw919086750672988874 : True := trivial
theorem PySem.W.Fast.tw1027320914746636692 : True := trivial
theorem PySem.W.Fast.tw17912563624067102278 : True := trivial
theorem PySem.W.Fast.tw17237122643358791483 : True := trivial
theorem PySem.W.Fast.tw7648770486990063928 : True := trivial
theorem PySem.W.Fast.tw11686144235723514102 : True := trivial
theorem PySem.W.Fast.tw14869935457738086796 : True := trivial
theorem PySem.W.Fast.tw8198807974655838247 : True := trivial
theorem PySem.W.Fast.tw4574851652008534743 : True := trivial
theorem PySem.W.Fast.tw13952024840198353077 : True := trivial
theorem PySem.W.Fast.tw15528321863834446746 : True := trivial
theorem PySem.W.Fast.tw4181006269532639163 : True := trivial
theorem PySem.W.Fast.tw13422210881577616695 : True := trivial
theorem PySem.W.Fast.tw9458058473022511853 : True := trivial
theorem PySem.W.Fast.tw16687850078430210846 : True := trivial
theorem PySem.W.Fast.tw12468978658368637300 : True := trivial
theorem PySem.W.Fast.tw1542968239335524052 : True := trivial
theorem PySem.W.Fast.tw7295721066242072595 : True := trivial
theorem PySem.W.Fast.tw8615701163167849719 : True := trivial
theorem PySem.W.Fast.tw16625487421118521948 : True := trivial
theorem PySem.W.Fast.tw15181752156757854181 : True := trivial
theorem PySem.W.Fast.tw3500971875941627482 : True := trivial
theorem PySem.W.Fast.tw1012097871904168864 : True := trivial
theorem PySem.W.Fast.tw16430698179912164504 : True := trivial
theorem PySem.W.Fast.tw16566730043643937613 : True := trivial
theorem PySem.W.Fast.tw6543622876692391549 : True := trivial
theorem PySem.W.Fast.tw8005195965892764201 : True := trivial
theorem PySem.W.Fast.tw9835301770613467985 : True := trivial
theorem PySem.W.Fast.tw4396070676212185493 : True := trivial
theorem PySem.W.Fast.tw16949548177549808561 : True := trivial
theorem PySem.W.Fast.tw12658267708662684536 : True := trivial
theorem PySem.W.Fast.tw1200989763636972564 : True := trivial
theorem PySem.W.Fast.tw59475614167561325 : True := trivial
theorem PySem.W.Fast.tw478246742565261875 : True := trivial
theorem PySem.W.Fast.tw16278088540307041582 : True := trivial
theorem PySem.W.Fast.tw10301171366994757998 : True := trivial
theorem PySem.W.Fast.tw5734980345893314314 : True := trivial
theorem PySem.W.Fast.tw15693485192889909081 : True := trivial
theorem PySem.W.Fast.tw13453872515723871654 : True := trivial
theorem PySem.W.Fast.tw4791268947954097619 : True := trivial
theorem PySem.W.Fast.tw2596121809593946370 : True := trivial
theorem PySem.W.Fast.tw15169449455792248919 : True := trivial
theorem PySem.W.Fast.tw938928855411230346 : True := trivial
theorem PySem.W.Fast.tw9113939342766790654 : True := trivial
theorem PySem.W.Fast.tw13438999169680136502 : True := trivial
theorem PySem.W.Fast.tw5311547492097518200 : True := trivial
theorem PySem.W.Fast.tw13513049440015550974 : True := trivial
theorem PySem.W.Fast.tw5814653683288436723 : True := trivial
theorem PySem.W.Fast.tw13350460523019298581 : True := trivial
theorem PySem.W.Fast.tw5844691382320312300 : True := trivial
theorem PySem.W.Fast.tw4839650311849409507 : True := trivial
theorem PySem.W.Fast.tw944419175227736347 : True := trivial
theorem PySem.W.Fast.tw5460151084305551924 : True := trivial
theorem PySem.W.Fast.tw18126410421956897089 : True := trivial
theorem PySem.W.Fast.tw14855795002608917023 : True := trivial
open PySem PySem.W PyProof.Rows
set_option maxRecDepth 100000 in
set_option maxHeartbeats 0 in
theorem PySem.Challenge.cw_gapweave_k41_block_cost_holds : PySem.Challenge.rw_gapweave_k41_block_cost.Holds := by
  w_on; o_law; z_head; (case hw => w_witness2)
  k_fill
  refine G41.walk (l := PySem.Challenge.rw_gapweave_k41_block_cost) rfl rfl (fun _ => by kernel_rfl) (fun _ => by kernel_rfl) ?F
  case F =>
    intro w mg fa h KX G hmg
    refine' G41.all_mk KX G hmg ?g_FIRST_SIGN ?g_LAST_SIGN ?g_NO_SIGNS ?l_NO_SIGNS ?g_GAP ?aC_Prices ?pg_Prices ?hd_Prices ?po_Prices ?sa_Prices ?mk_Prices ?kc_Prices ?nA_Prices_signs ?nA_Prices_pairs ?nA_Prices_opening ?nA_Prices_more ?nA_Prices_factors ?nA_Prices_unit ?nA_Prices_costs ?nA_Prices_opening_units ?nA_Prices_more_units ?aC_Block ?pg_Block ?hd_Block ?po_Block ?sa_Block ?mk_Block ?kc_Block ?nA_Block_rows ?aC_WeaveError ?b1_WeaveError ?b2_WeaveError ?b3_WeaveError ?aC_NoBlock ?xi_NoBlock ?y0_NoBlock ?y1_NoBlock ?y2_NoBlock ?y3_NoBlock ?y4_NoBlock ?y5_NoBlock ?y6_NoBlock ?y7_NoBlock ?aC_NoRow ?aC_NoSign ?y0_NoSign ?y1_NoSign ?y2_NoSign ?y3_NoSign ?y4_NoSign ?y5_NoSign ?y6_NoSign ?y7_NoSign ?u1_NoSign ?u2_NoSign ?u3_NoSign ?kc_NoSign ?nA_NoSign_row ?nA_NoSign_place ?w1_WeaveError ?w2_WeaveError ?w3_WeaveError ?ks_NoSign_WeaveError ?ki_NoSign_NoSign ?ki_NoSign_NoBlock ?ki_NoSign_NoRow ?a0 ?i0 ?l0 ?c0 ?k0 ?a1 ?l1 ?c1 ?k1 ?a2 ?l2 ?c2 ?k2 ?a3 ?l3 ?c3 ?k3 ?a4 ?l4 ?c4 ?k4 ?a5 ?l5 ?c5 ?k5 ?a6 ?l6 ?c6 ?k6 ?a7 ?l7 ?c7 ?k7 ?a8 ?l8 ?c8 ?k8 ?a9 ?l9 ?c9 ?k9 ?a10 ?l10 ?c10 ?k10 ?a11 ?l11 ?c11 ?k11 ?a12 ?l12 ?c12 ?k12 ?a13 ?l13 ?c13 ?k13 ?a14 ?i14 ?l14 ?c14 ?k14 ?a15 ?l15 ?c15 ?k15 ?a16 ?l16 ?c16 ?k16 ?a17 ?l17 ?c17 ?k17 ?a18 ?l18 ?c18 ?k18 ?a19 ?l19 ?c19 ?k19 ?a20 ?l20 ?c20 ?k20 ?a21 ?l21 ?c21 ?k21 ?a22 ?l22 ?c22 ?k22 ?a23 ?l23 ?c23 ?k23 ?a24 ?l24 ?c24 ?k24 ?a25 ?l25 ?c25 ?k25 ?a26 ?l26 ?c26 ?k26 ?a27 ?l27 ?c27 ?k27 ?a28 ?i28 ?l28 ?c28 ?k28 ?a29 ?l29 ?c29 ?k29 ?a30 ?l30 ?c30 ?k30 ?a31 ?l31 ?c31 ?k31 ?a32 ?l32 ?c32 ?k32 ?a33 ?l33 ?c33 ?k33 ?a34 ?l34 ?c34 ?k34 ?a35 ?l35 ?c35 ?k35 ?a36 ?l36 ?c36 ?k36 ?a37 ?l37 ?c37 ?k37 ?a38 ?l38 ?c38 ?k38 ?a39 ?l39 ?c39 ?k39 ?a40 ?l40 ?c40 ?k40 ?a41 ?l41 ?c41 ?k41 ?a42 ?l42 ?c42 ?k42 ?a43 ?l43 ?c43 ?k43 ?a44 ?l44 ?c44 ?k44 ?a45 ?l45 ?c45 ?k45 ?a46 ?l46 ?c46 ?k46 ?a47 ?l47 ?c47 ?k47 ?a48 ?l48 ?c48 ?k48 ?xj_NoSign ?zabs ?zlen ?zord ?zset ?ztuple ?zzip ?zenumerate ?zrange ?zisinstance ?zint ?zbool ?zall ?zsum
    (case g_FIRST_SIGN => k_is)
    (case g_LAST_SIGN => k_is)
    (case g_NO_SIGNS => k_is)
    (case l_NO_SIGNS => k_is)
    (case g_GAP => k_is)
    (case aC_Prices => k_is)
    (case pg_Prices => k_is)
    (case hd_Prices => k_is)
    (case po_Prices => k_is)
    (case sa_Prices => k_is)
    (case mk_Prices => k_is)
    (case kc_Prices => k_is)
    (case nA_Prices_signs => k_is)
    (case nA_Prices_pairs => k_is)
    (case nA_Prices_opening => k_is)
    (case nA_Prices_more => k_is)
    (case nA_Prices_factors => k_is)
    (case nA_Prices_unit => k_is)
    (case nA_Prices_costs => k_is)
    (case nA_Prices_opening_units => k_is)
    (case nA_Prices_more_units => k_is)
    (case aC_Block => k_is)
    (case pg_Block => k_is)
    (case hd_Block => k_is)
    (case po_Block => k_is)
    (case sa_Block => k_is)
    (case mk_Block => k_is)
    (case kc_Block => k_is)
    (case nA_Block_rows => k_is)
    (case aC_WeaveError => k_is)
    (case b1_WeaveError => k_is)
    (case b2_WeaveError => k_is)
    (case b3_WeaveError => k_is)
    (case aC_NoBlock => k_is)
    (case xi_NoBlock => k_exc)
    (case y0_NoBlock => k_is)
    (case y1_NoBlock => k_is)
    (case y2_NoBlock => k_is)
    (case y3_NoBlock => k_is)
    (case y4_NoBlock => k_is)
    (case y5_NoBlock => k_is)
    (case y6_NoBlock => k_is)
    (case y7_NoBlock => k_is)
    (case aC_NoRow => k_is)
    (case aC_NoSign => k_is)
    (case y0_NoSign => k_is)
    (case y1_NoSign => k_is)
    (case y2_NoSign => k_is)
    (case y3_NoSign => k_is)
    (case y4_NoSign => k_is)
    (case y5_NoSign => k_is)
    (case y6_NoSign => k_is)
    (case y7_NoSign => k_is)
    (case u1_NoSign => k_is)
    (case u2_NoSign => kernel_rfl)
    (case u3_NoSign => k_is)
    (case kc_NoSign => k_is)
    (case nA_NoSign_row => k_is)
    (case nA_NoSign_place => k_is)
    (case w1_WeaveError => kernel_rfl)
    (case w2_WeaveError => kernel_rfl)
    (case w3_WeaveError => kernel_rfl)
    (case ks_NoSign_WeaveError => k_is)
    (case ki_NoSign_NoSign => kit_is)
    (case ki_NoSign_NoBlock => kit_is)
    (case ki_NoSign_NoRow => kit_is)
    (case a0 => k_is)
    (case i0 => k_is)
    (case l0 => k_is)
    (case c0 => k_is)
    (case k0 => k_is)
    (case a1 => k_is)
    (case l1 => k_is)
    (case c1 => k_is)
    (case k1 => k_is)
    (case a2 => k_is)
    (case l2 => k_is)
    (case c2 => k_is)
    (case k2 => k_is)
    (case a3 => k_is)
    (case l3 => k_is)
    (case c3 => k_is)
    (case k3 => k_is)
    (case a4 => k_is)
    (case l4 => k_is)
    (case c4 => k_is)
    (case k4 => k_is)
    (case a5 => k_is)
    (case l5 => k_is)
    (case c5 => k_is)
    (case k5 => k_is)
    (case a6 => k_is)
    (case l6 => k_is)
    (case c6 => k_is)
    (case k6 => k_is)
    (case a7 => k_is)
    (case l7 => k_is)
    (case c7 => k_is)
    (case k7 => k_is)
    (case a8 => k_is)
    (case l8 => k_is)
    (case c8 => k_is)
    (case k8 => k_is)
    (case a9 => k_is)
    (case l9 => k_is)
    (case c9 => k_is)
    (case k9 => k_is)
    (case a10 => k_is)
    (case l10 => k_is)
    (case c10 => k_is)
    (case k10 => k_is)
    (case a11 => k_is)
    (case l11 => k_is)
    (case c11 => k_is)
    (case k11 => k_is)
    (case a12 => k_is)
    (case l12 => k_is)
    (case c12 => k_is)
    (case k12 => k_is)
    (case a13 => k_is)
    (case l13 => k_is)
    (case c13 => k_is)
    (case k13 => k_is)
    (case a14 => k_is)
    (case i14 => k_is)
    (case l14 => k_is)
    (case c14 => k_is)
    (case k14 => k_is)
    (case a15 => k_is)
    (case l15 => k_is)
    (case c15 => k_is)
    (case k15 => k_is)
    (case a16 => k_is)
    (case l16 => k_is)
    (case c16 => k_is)
    (case k16 => k_is)
    (case a17 => k_is)
    (case l17 => k_is)
    (case c17 => k_is)
    (case k17 => k_is)
    (case a18 => k_is)
    (case l18 => k_is)
    (case c18 => k_is)
    (case k18 => k_is)
    (case a19 => k_is)
    (case l19 => k_is)
    (case c19 => k_is)
    (case k19 => k_is)
    (case a20 => k_is)
    (case l20 => k_is)
    (case c20 => k_is)
    (case k20 => k_is)
    (case a21 => k_is)
    (case l21 => k_is)
    (case c21 => k_is)
    (case k21 => k_is)
    (case a22 => k_is)
    (case l22 => k_is)
    (case c22 => k_is)
    (case k22 => k_is)
    (case a23 => k_is)
    (case l23 => k_is)
    (case c23 => k_is)
    (case k23 => k_is)
    (case a24 => k_is)
    (case l24 => k_is)
    (case c24 => k_is)
    (case k24 => k_is)
    (case a25 => k_is)
    (case l25 => k_is)
    (case c25 => k_is)
    (case k25 => k_is)
    (case a26 => k_is)
    (case l26 => k_is)
    (case c26 => k_is)
    (case k26 => k_is)
    (case a27 => k_is)
    (case l27 => k_is)
    (case c27 => k_is)
    (case k27 => k_is)
    (case a28 => k_is)
    (case i28 => k_is)
    (case l28 => k_is)
    (case c28 => k_is)
    (case k28 => k_is)
    (case a29 => k_is)
    (case l29 => k_is)
    (case c29 => k_is)
    (case k29 => k_is)
    (case a30 => k_is)
    (case l30 => k_is)
    (case c30 => k_is)
    (case k30 => k_is)
    (case a31 => k_is)
    (case l31 => k_is)
    (case c31 => k_is)
    (case k31 => k_is)
    (case a32 => k_is)
    (case l32 => k_is)
    (case c32 => k_is)
    (case k32 => k_is)
    (case a33 => k_is)
    (case l33 => k_is)
    (case c33 => k_is)
    (case k33 => k_is)
    (case a34 => k_is)
    (case l34 => k_is)
    (case c34 => k_is)
    (case k34 => k_is)
    (case a35 => k_is)
    (case l35 => k_is)
    (case c35 => k_is)
    (case k35 => k_is)
    (case a36 => k_is)
    (case l36 => k_is)
    (case c36 => k_is)
    (case k36 => k_is)
    (case a37 => k_is)
    (case l37 => k_is)
    (case c37 => k_is)
    (case k37 => k_is)
    (case a38 => k_is)
    (case l38 => k_is)
    (case c38 => k_is)
    (case k38 => k_is)
    (case a39 => k_is)
    (case l39 => k_is)
    (case c39 => k_is)
    (case k39 => k_is)
    (case a40 => k_is)
    (case l40 => k_is)
    (case c40 => k_is)
    (case k40 => k_is)
    (case a41 => k_is)
    (case l41 => k_is)
    (case c41 => k_is)
    (case k41 => k_is)
    (case a42 => k_is)
    (case l42 => k_is)
    (case c42 => k_is)
    (case k42 => k_is)
    (case a43 => k_is)
    (case l43 => k_is)
    (case c43 => k_is)
    (case k43 => k_is)
    (case a44 => k_is)
    (case l44 => k_is)
    (case c44 => k_is)
    (case k44 => k_is)
    (case a45 => k_is)
    (case l45 => k_is)
    (case c45 => k_is)
    (case k45 => k_is)
    (case a46 => k_is)
    (case l46 => k_is)
    (case c46 => k_is)
    (case k46 => k_is)
    (case a47 => k_is)
    (case l47 => k_is)
    (case c47 => k_is)
    (case k47 => k_is)
    (case a48 => k_is)
    (case l48 => k_is)
    (case c48 => k_is)
    (case k48 => k_is)
    (case xj_NoSign => kernel_rfl)
    (case zabs => k_is)
    (case zlen => k_is)
    (case zord => k_is)
    (case zset => k_is)
    (case ztuple => k_is)
    (case zzip => k_is)
    (case zenumerate => k_is)
    (case zrange => k_is)
    (case zisinstance => k_is)
    (case zint => k_is)
    (case zbool => k_is)
    (case zall => k_is)
    (case zsum => k_is)

