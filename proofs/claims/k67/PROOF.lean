import PyProof.Rows.All
import Wide.All
import OpenK.AllK
import Wide.FinOn
import Lean
import PyProof.EqAt
import PyProof.EqKinds
import PyProof.TupleCall
import PyProof.NeKinds
import PyProof.Rows.StrStrike
import PyProof.SumWalkG
import PyProof.StrCalls2
import PyProof.Rows.StrItems
import PyProof.Rows.StrJoin2
import PyProof.Truth
import PySem.Challenge.RW_gapweave_k67_blocks_written
set_option Elab.async false
set_option linter.all false
set_option maxRecDepth 100000
namespace TK
open PySem
theorem runs_toks {M : Model} {Γ : Ctx} {p : Pos} {t : Sem PySem.Fin} {fs : List Frame} {s s' : Shared} {e : End} (h : Runs M Γ p t fs s e s') : s.toks ≤ s'.toks := by
  induction h with
  | fresh _ ih => exact Nat.le_trans (Nat.le_succ _) ih
  | call _ _ a b => exact Nat.le_trans a b
  | segRet _ _ a b => exact Nat.le_trans a b
  | segGen _ _ a b => exact Nat.le_trans a b
  | resumeFresh _ _ _ _ a b => exact Nat.le_trans a b
  | resumeSuspended _ _ _ _ a b => exact Nat.le_trans a b
  | segSuspGen _ _ _ _ a b => exact Nat.le_trans a b
  | _ => first | exact Nat.le_refl _ | assumption
theorem wakes_toks {M : Model} {Γ : Ctx} {p : Pos} {g : Nat} {r : Resume} {s s' : Shared} {res : GenResult} (h : Wakes M Γ p g r s res s') : s.toks ≤ s'.toks := by
  unfold Wakes at h
  split at h
  · exact h.elim
  · split at h
    · obtain ⟨e, s1, a, _, _, rfl⟩ := h; have z := runs_toks a; exact z
    · obtain ⟨_, rfl⟩ := h; exact Nat.le_refl _
    · obtain ⟨_, rfl⟩ := h; exact Nat.le_refl _
  · obtain ⟨e, s1, a, _, _, rfl⟩ := h; have z := runs_toks a; exact z
  · obtain ⟨_, rfl⟩ := h; exact Nat.le_refl _
  · obtain ⟨_, rfl⟩ := h; exact Nat.le_refl _
theorem wp_up {α : Type} {M : Model} {Γ : Ctx} {n : Nat} (t : Sem α) : ∀ {Q : α → Pos → Shared → Prop} {E : Value → Pos → Shared → Prop} {p : Pos} {s : Shared}, n ≤ s.toks →
    Sem.wp M Γ t (fun a p s' => n ≤ s'.toks → Q a p s') (fun e p s' => n ≤ s'.toks → E e p s') p s → Sem.wp M Γ t Q E p s := by
  induction t with
  | pure a => intro Q E p s hn h; exact h hn
  | raise e => intro Q E p s hn h; exact h hn
  | unsupported w => intro Q E p s hn h; exact h
  | finish e => intro Q E p s hn h; exact h
  | rule t k ih => intro Q E p s hn h; exact ih () hn h
  | «at» p' k ih => intro Q E p s hn h; exact ih () hn h
  | load a q k ih => intro Q E p s hn h; obtain ⟨o, e, h⟩ := h; exact ⟨o, e, ih o hn h⟩
  | update a q f k ih => intro Q E p s hn h; exact ⟨h.1, ih () hn h.2⟩
  | alloc o k ih => intro Q E p s hn h; exact ih _ hn h
  | loadIfAlive a k ih => intro Q E p s hn h; exact ih _ hn h
  | point l k ih => intro Q E p s hn h; exact ih () hn h
  | register a k ih => intro Q E p s hn h; exact h
  | fresh k ih => intro Q E p s hn h; exact ih _ (Nat.le_succ_of_le hn) h
  | ask k ih => intro Q E p s hn h; exact ih _ hn h
  | choose src m k ih => intro Q E p s hn h; exact ⟨h.1, ih _ hn h.2⟩
  | os q l k ih => intro Q E p s hn h; exact ih _ hn h
  | call c hd g l k ih => intro Q E p s hn h; obtain ⟨r, s1, a, h⟩ := h; exact ⟨r, s1, a, ih r (Nat.le_trans hn (runs_toks a)) h⟩
  | handled own k ih => intro Q E p s hn h; exact ih _ hn h
  | newGen c k ih => intro Q E p s hn h; exact ih _ hn h
  | genState g k ih => intro Q E p s hn h; obtain ⟨st, e, h⟩ := h; exact ⟨st, e, ih _ hn h⟩
  | resume g r l k ih => intro Q E p s hn h; obtain ⟨res, s1, a, h⟩ := h; exact ⟨res, s1, a, ih _ (Nat.le_trans hn (wakes_toks a)) h⟩
  | yield v g l k ih => intro Q E p s hn h; exact h
  | stack k ih => intro Q E p s hn h; exact ih _ hn h
  | fork c k ih => intro Q E p s hn h; exact h
  | thread k ih => intro Q E p s hn h; exact ih _ hn h
  | await a tk tm l k ih => intro Q E p s hn h; exact h
theorem wpAny_up {α : Type} {M : Model} {A : Around} {t : Sem α} {Q : α → Shared → Prop} {E : Value → Shared → Prop} {s : Shared} {n : Nat} (hn : n ≤ s.toks) (h : wpAny M A t (fun a s' => n ≤ s'.toks → Q a s') (fun e s' => n ≤ s'.toks → E e s') s) : wpAny M A t Q E s :=
  fun Γ p hΓ => wp_up t hn (h Γ p hΓ)
theorem codeAny_up {M : Model} {A : Around} {c : Code} {R : Result → Shared → Prop} {s : Shared} {n : Nat} (hn : n ≤ s.toks) (h : codeAny M A c (fun r s' => n ≤ s'.toks → R r s') s) : codeAny M A c R s := fun Γ p hc hb => by
  obtain ⟨r, s1, a, h⟩ := h Γ p hc hb
  exact ⟨r, s1, a, h (Nat.le_trans hn (runs_toks a))⟩
end TK

set_option Elab.async false
set_option linter.all false
set_option maxRecDepth 100000
namespace L2
open PySem PySem.Spec PyProof.Rows
abbrev Key := Sum Int Str
def keyIs : Key → Value → Bool
  | .inl k, v => Value.isInt k v
  | .inr x, v => Value.isStrOf x v
def keyH (w : World) : Key → Int
  | .inl k => hashInt k
  | .inr x => hashStr w x
theorem keyIs_shape : ∀ {k : Key} {v : Value}, keyIs k v = true → (∃ i t, k = Sum.inl i ∧ v = Value.int i t) ∨ (∃ x t, k = Sum.inr x ∧ v = Value.str x t)
  | .inl i, v, h => by
    obtain ⟨t, e⟩ := Value.isInt_shape (k := i) (v := v) h
    exact .inl ⟨i, t, rfl, e⟩
  | .inr x, v, h => by
    obtain ⟨t, e⟩ := Value.isStrOf_shape (x := x) (v := v) h
    exact .inr ⟨x, t, rfl, e⟩
theorem keyIs_int (i : Int) (t : Tok) : keyIs (.inl i) (.int i t) = true := by simp [keyIs, Value.isInt]
theorem keyIs_str (x : Str) (t : Tok) : keyIs (.inr x) (.str x t) = true := by simp [keyIs, Value.isStrOf]
theorem key_ll (a b : Int) : decide ((Sum.inl a : Key) = Sum.inl b) = (a == b) := by
  by_cases e : a = b
  · subst e; simp
  · have h : ¬ (Sum.inl a : Key) = Sum.inl b := fun q => e (Sum.inl.inj q)
    rw [decide_eq_false h]
    exact (beq_eq_false_iff_ne.mpr e).symm
theorem key_rr (a b : Str) : decide ((Sum.inr a : Key) = Sum.inr b) = decide (a = b) := by
  by_cases e : a = b
  · subst e; simp
  · have h : ¬ (Sum.inr a : Key) = Sum.inr b := fun q => e (Sum.inr.inj q)
    rw [decide_eq_false h, decide_eq_false e]
theorem key_lr (a : Int) (b : Str) : decide ((Sum.inl a : Key) = Sum.inr b) = false := decide_eq_false (fun q => nomatch q)
theorem key_rl (a : Str) (b : Int) : decide ((Sum.inr a : Key) = Sum.inl b) = false := decide_eq_false (fun q => nomatch q)
def mixKind (prog : Program) (w : World) : PySem.KeyKind prog w Key where
  is := keyIs
  hash := keyH w
  inj := fun v a b ha hb => by
    rcases keyIs_shape ha with ⟨i, t, rfl, rfl⟩ | ⟨x, t, rfl, rfl⟩
    · rcases keyIs_shape hb with ⟨j, u, rfl, e⟩ | ⟨y, u, rfl, e⟩
      · injection e with e1 _; rw [e1]
      · exact nomatch e
    · rcases keyIs_shape hb with ⟨j, u, rfl, e⟩ | ⟨y, u, rfl, e⟩
      · exact nomatch e
      · injection e with e1 _; rw [e1]
  byValue := fun k v h => by
    rcases keyIs_shape h with ⟨i, t, rfl, rfl⟩ | ⟨x, t, rfl, rfl⟩ <;> rfl
  pyHash := fun hv h => by
    rcases keyIs_shape hv with ⟨i, t, rfl, rfl⟩ | ⟨x, t, rfl, rfl⟩
    · exact wpAny_pyHash_int h
    · exact wpAny_pyHash_str h
  eqBool := fun hu hv h => by
    rcases keyIs_shape hu with ⟨i, t, rfl, rfl⟩ | ⟨x, t, rfl, rfl⟩
    · rcases keyIs_shape hv with ⟨j, u, rfl, rfl⟩ | ⟨y, u, rfl, rfl⟩
      · rw [key_ll] at h; exact wpAny_eqBool_int h
      · rw [key_lr] at h; exact SeqAt.EqAt.int_str i t y u _ _ _ _ h
    · rcases keyIs_shape hv with ⟨j, u, rfl, rfl⟩ | ⟨y, u, rfl, rfl⟩
      · rw [key_rl] at h; exact SeqAt.EqAt.str_int x t j u _ _ _ _ h
      · rw [key_rr] at h; exact wpAny_eqBool_str h
  «strs» := fun k x t v h => by
    rcases keyIs_shape h with ⟨i, u, rfl, e⟩ | ⟨y, u, rfl, e⟩
    · exact nomatch e
    · injection e with e1 _
      subst e1
      cases v <;> rfl
theorem mixKind_int (prog : Program) (w : World) (i : Int) (t : Tok) : (mixKind prog w).is (.inl i) (.int i t) = true := keyIs_int i t
theorem mixKind_str (prog : Program) (w : World) (x : Str) (t : Tok) : (mixKind prog w).is (.inr x) (.str x t) = true := keyIs_str x t
end L2
namespace L2
open PySem PySem.Spec PyProof.Rows
inductive V where
  | non | bl (b : Bool) | int (i : Int) | str (x : Str) | byt (b : Array UInt8) | flt (b : UInt64) | ref (a : Addr) | ty (n : String)
  deriving DecidableEq
def RelV : V → Value → Prop
  | .non, u => u = Value.none
  | .bl b, u => u = Value.bool b
  | .int i, u => ∃ t, u = Value.int i t
  | .str x, u => ∃ t, u = Value.str x t
  | .byt b, u => ∃ t, u = Value.bytes b t
  | .flt b, u => ∃ t, u = Value.float b t
  | .ref a, u => u = Value.ref a
  | .ty n, u => u = Value.type n
abbrev Vals : List V → List Value → Prop := Paired RelV
theorem Vals.length {xs : List V} {us : List Value} (r : Vals xs us) : xs.length = us.length := Paired.length r
theorem Vals.get : ∀ {xs : List V} {us : List Value} {i : Nat} {x : V}, Vals xs us → xs[i]? = some x → ∃ u, us[i]? = some u ∧ RelV x u
  | _, _, _, _, .nil, e => by simp at e
  | _, _, 0, _, .cons r _, e => by simp at e; subst e; exact ⟨_, rfl, r⟩
  | _, _, i + 1, x, .cons _ t, e => by
    obtain ⟨u, h1, h2⟩ := Vals.get (i := i) (x := x) t (by simpa using e)
    exact ⟨u, by simpa using h1, h2⟩
theorem Vals.set {x : V} {u : Value} (r : RelV x u) : ∀ {xs : List V} {us : List Value} (i : Nat), Vals xs us → Vals (xs.set i x) (us.set i u)
  | _, _, _, .nil => .nil
  | _, _, 0, .cons _ t => .cons r t
  | _, _, i + 1, .cons q t => .cons q (Vals.set r i t)
theorem Vals.append : ∀ {xs ys : List V} {us ws : List Value}, Vals xs us → Vals ys ws → Vals (xs ++ ys) (us ++ ws)
  | _, _, _, _, .nil, s => s
  | _, _, _, _, .cons r t, s => .cons r (Vals.append t s)
theorem Vals.take : ∀ {xs : List V} {us : List Value} (n : Nat), Vals xs us → Vals (xs.take n) (us.take n)
  | _, _, 0, _ => .nil
  | _, _, _ + 1, .nil => .nil
  | _, _, n + 1, .cons r t => .cons r (Vals.take n t)
theorem Vals.drop : ∀ {xs : List V} {us : List Value} (n : Nat), Vals xs us → Vals (xs.drop n) (us.drop n)
  | _, _, 0, r => r
  | _, _, _ + 1, .nil => .nil
  | _, _, n + 1, .cons _ t => Vals.drop n t
theorem Vals.none_of : ∀ {xs : List V} {us : List Value} {i : Nat}, Vals xs us → xs[i]? = none → us[i]? = none := fun {xs us i} r e => by
  have h1 := r.length
  have h2 : xs.length ≤ i := List.getElem?_eq_none_iff.mp e
  exact List.getElem?_eq_none_iff.mpr (by omega)
def RelO : Option V → Option Value → Prop
  | some v, some u => RelV v u
  | none, none => True
  | _, _ => False
def KV {κ : Type} : List (κ × V) → List (κ × Value) → Prop := Paired fun (p : κ × V) (q : κ × Value) => p.1 = q.1 ∧ RelV p.2 q.2
def kV : Key → V
  | .inl i => .int i
  | .inr x => .str x
inductive HO where
  /-- a list -/
  | lst (xs : List V)
  /-- a tuple (never changes) -/
  | tup (xs : List V)
  /-- a dict whose keys are ints and texts; one whose keys are tuples of ints and texts (the empty one is both) -/
  | dK (kvs : List (Key × V)) | dT (kvs : List (List Key × V))
  /-- a set of ints: its members, its size -/
  | set (S : Int → Bool) (n : Nat)
  /-- an instance of the class at C, its dict at dx, its attributes -/
  | ins (C dx : Addr) (fs : List (Str × V))
  /-- the dict of the instance at x -/
  | own (x : Addr)
  /-- the dict of an exception -/
  | xd (fs : List (Str × V))
  /-- a bound method, f of x -/
  | met (f x : Addr)
  /-- a range object lo, lo + 1, .. below hi -/
  | rng (lo hi : Int)
  /-- a thing that is known to the object (the script; a dict while a loop walks it): read, never written while it is so -/
  | frz (o : Obj) (u : HO)
  /-- a code object's table -/
  | tbl (ps : Array Value)
  /-- any other thing, by what is true of its one object (a def of one's own: SetO a S n := HO.ext fun h => ..) -/
  | ext (φ : Heap → Prop)
abbrev Hp := Addr → Option HO
def upd (H : Hp) (a : Addr) (o : HO) : Hp := fun b => if b = a then some o else H b
theorem upd_same {H : Hp} {a : Addr} {o : HO} : upd H a o a = some o := by unfold upd; rw [if_pos rfl]
theorem upd_ne {H : Hp} {a b : Addr} {o : HO} (h : b ≠ a) : upd H a o b = H b := by unfold upd; rw [if_neg h]
theorem ne_of {H : Hp} {a b : Addr} {o u : HO} (h : H a = some o) (h' : H b = some u) (d : o ≠ u) : a ≠ b := by
  intro e; subst e; rw [h] at h'; exact d (Option.some.inj h')
theorem ne_of_none {H : Hp} {a b : Addr} {o : HO} (h : H a = some o) (h' : H b = none) : a ≠ b := by
  intro e; subst e; rw [h] at h'; cases h'
section
variable (P : Program) (w : World)
def ObjOk (H : Hp) (h : Heap) (a : Addr) : HO → Prop
  | .lst xs => xs.length ≤ sizeLine ∧ ∃ (its : List Value) (n : Nat), Vals xs its ∧ h.get? a = some { cls := .type "list", data := .seq its.toArray n }
  | .tup xs => xs.length ≤ sizeLine ∧ ∃ its : List Value, Vals xs its ∧ IsTup h a its.toArray
  | .dK kvs => kvs.length ≤ sizeLine ∧ (a == sysModules) = false ∧ ∃ vs, KV kvs vs ∧ h.DictOf (mixKind P w) a vs
  | .dT kvs => kvs.length ≤ sizeLine ∧ (a == sysModules) = false ∧ ∃ xs : List (List Key × Addr × Value),
      Paired (fun (p : List Key × V) (q : List Key × Addr × Value) => p.1 = q.1 ∧ H q.2.1 = some (.tup (p.1.map kV)) ∧ RelV p.2 q.2.2) kvs xs ∧
      ∃ o es ep, h.get? a = some o ∧ o.ExactDict ∧ o.data = .dict es ep ∧ es.toList = xs.map (entryOfKey (tupleKind (mixKind P w))) ∧ (xs.map (·.1)).Nodup
  | .set S n => h.SetOf (intKind P w) a S n
  | .ins C dx fs => H dx = some (.own a) ∧ fs.length ≤ 1000 ∧ dx ≠ a ∧ h.get? a = some (PySem.W.instObj C dx) ∧
      ∃ mA, h.Ns1 dx mA ∧ (∀ f, RelO (fs.lookup f) (mA f)) ∧ PySem.Within mA (fs.map (·.1))
  | .own _ => ∃ o, h.get? a = some o
  | .xd fs => ∃ mA, h.Ns1 a mA ∧ ∀ f, RelO (fs.lookup f) (mA f)
  | .rng lo hi => ∃ t u v, h.get? a = some { cls := .type "range", data := .fields #[.int lo t, .int hi u, .int 1 v] }
  | .frz o u => h.get? a = some o ∧ ObjOk H h a u
  | .tbl ps => h.get? a = some { cls := .none, data := .fields ps }
  | .met f x => h.get? a = some (PySem.W.methodObj (.ref f) (.ref x))
  | .ext φ => φ h ∧ (∃ o, h.get? a = some o) ∧ ∀ h1 h2 : Heap, φ h1 → (∀ o, h1.get? a = some o → h2.get? a = some o) → φ h2
def HOk (H : Hp) (h : Heap) : Prop := ∀ a o, H a = some o → ObjOk P w H h a o
end
section
variable {P : Program} {w : World} {H H' : Hp} {h h' : Heap} {a : Addr} {o : HO}
theorem ObjOk.lt (x : ObjOk P w H h a o) : a < h.objs.size := by
  cases o with
  | lst xs => obtain ⟨_, _, _, _, e⟩ := x; exact Heap.lt_size e
  | tup xs => obtain ⟨_, _, _, p⟩ := x; exact p.lt
  | dK kvs => obtain ⟨_, _, _, _, o, _, _, e, _⟩ := x; exact Heap.lt_size e
  | dT kvs => obtain ⟨_, _, _, _, o, _, _, e, _⟩ := x; exact Heap.lt_size e
  | set S n => obtain ⟨o, _, _, _, e, _⟩ := x; exact Heap.lt_size e
  | ins C dx fs => obtain ⟨_, _, _, e, _⟩ := x; exact Heap.lt_size e
  | own y => obtain ⟨_, e⟩ := x; exact Heap.lt_size e
  | xd fs => obtain ⟨_, ⟨_, _, _, e, _⟩, _⟩ := x; exact Heap.lt_size e
  | rng lo hi => obtain ⟨_, _, _, e⟩ := x; exact Heap.lt_size e
  | frz ob u => obtain ⟨e, _⟩ := x; exact Heap.lt_size e
  | tbl ps => exact Heap.lt_size (show h.get? a = some _ from x)
  | met f y => exact Heap.lt_size (show h.get? a = some _ from x)
  | ext φ => obtain ⟨_, ⟨_, e⟩, _⟩ := x; exact Heap.lt_size e
theorem Paired.mapP {α β : Type} {F G : α → β → Prop} : ∀ {l₁ : List α} {l₂ : List β}, Paired F l₁ l₂ → (∀ a b, F a b → G a b) → Paired G l₁ l₂
  | _, _, .nil, _ => .nil
  | _, _, .cons r t, f => .cons (f _ _ r) (Paired.mapP t f)
theorem ObjOk.stay (x : ObjOk P w H h a o) (k : ∀ b u, (b = a ∨ H b = some (.own a)) → h.get? b = some u → h'.get? b = some u)
    (ho : ∀ b, H b = some (.own a) → H' b = some (.own a)) (ht : ∀ b xs, H b = some (.tup xs) → H' b = some (.tup xs)) : ObjOk P w H' h' a o := by
  induction o with
  | lst xs => obtain ⟨z, its, n, r, e⟩ := x; exact ⟨z, its, n, r, k _ _ (.inl rfl) e⟩
  | tup xs => obtain ⟨z, its, r, ob, e, c⟩ := x; exact ⟨z, its, r, ob, k _ _ (.inl rfl) e, c⟩
  | dK kvs => obtain ⟨z, y, vs, r, ob, es, ep, e, c⟩ := x; exact ⟨z, y, vs, r, ob, es, ep, k _ _ (.inl rfl) e, c⟩
  | dT kvs =>
    obtain ⟨z, y, xs, r, ob, es, ep, e, c⟩ := x
    exact ⟨z, y, xs, Paired.mapP r fun p q z => ⟨z.1, ht _ _ z.2.1, z.2.2⟩, ob, es, ep, k _ _ (.inl rfl) e, c⟩
  | set S n => obtain ⟨ob, es, ep, t, e, c⟩ := x; exact ⟨ob, es, ep, t, k _ _ (.inl rfl) e, c⟩
  | ins C dx fs =>
    obtain ⟨d, z, ne, e, mA, ⟨od, es, ep, e2, c⟩, r⟩ := x
    exact ⟨ho _ d, z, ne, k _ _ (.inl rfl) e, mA, ⟨od, es, ep, k _ _ (.inr d) e2, c⟩, r⟩
  | own y => obtain ⟨ob, e⟩ := x; exact ⟨ob, k _ _ (.inl rfl) e⟩
  | xd fs => obtain ⟨mA, ⟨od, es, ep, e, c⟩, r⟩ := x; exact ⟨mA, ⟨od, es, ep, k _ _ (.inl rfl) e, c⟩, r⟩
  | rng lo hi => obtain ⟨t, u, v, e⟩ := x; exact ⟨t, u, v, k _ _ (.inl rfl) e⟩
  | frz ob u ih => obtain ⟨e, q⟩ := x; exact ⟨k _ _ (.inl rfl) e, ih q⟩
  | tbl ps =>
    have e : h.get? a = some { cls := .none, data := .fields ps } := x
    show h'.get? a = some { cls := .none, data := .fields ps }
    exact k a _ (.inl rfl) e
  | met f y =>
    have e : h.get? a = some (PySem.W.methodObj (.ref f) (.ref y)) := x
    show h'.get? a = some (PySem.W.methodObj (.ref f) (.ref y))
    exact k a _ (.inl rfl) e
  | ext φ => obtain ⟨p, ⟨o, e⟩, st⟩ := x; exact ⟨st _ _ p fun o q => k _ _ (.inl rfl) q, ⟨o, k _ _ (.inl rfl) e⟩, st⟩
theorem HOk.lt (x : HOk P w H h) (e : H a = some o) : a < h.objs.size := (x a o e).lt
theorem HOk.fresh (x : HOk P w H h) (e : h.objs.size ≤ a) : H a = none := by
  cases q : H a with
  | none => rfl
  | some u => exact absurd (Nat.lt_of_lt_of_le (x.lt q) e) (Nat.lt_irrefl _)
theorem HOk.kept (x : HOk P w H h) (k : ∀ b u, h.get? b = some u → h'.get? b = some u) : HOk P w H h' := fun a o e =>
  (x a o e).stay (fun b u _ q => k b u q) (fun _ q => q) fun _ _ q => q
theorem HOk.laid (x : HOk P w H h) (k : ∀ b u, h.get? b = some u → h'.get? b = some u) (hp : h.objs.size ≤ a) (new : ObjOk P w (upd H a o) h' a o) : HOk P w (upd H a o) h' := fun b u e => by
  have hn := x.fresh hp
  by_cases hb : b = a
  · subst hb; rw [upd_same] at e; cases e; exact new
  · rw [upd_ne hb] at e
    exact (x b u e).stay (fun c v _ q => k c v q) (fun c q => by rw [upd_ne (ne_of_none q hn)]; exact q) fun c xs q => by rw [upd_ne (ne_of_none q hn)]; exact q
end
def Rd (H : Hp) (a : Addr) (u : HO) : Prop := H a = some u ∨ ∃ o, H a = some (.frz o u)
theorem Rd.ok {P : Program} {w : World} {H : Hp} {h : Heap} {a : Addr} {u : HO} (r : Rd H a u) (x : HOk P w H h) : ObjOk P w H h a u := by
  rcases r with r | ⟨o, r⟩
  · exact x a u r
  · obtain ⟨_, q⟩ := x a _ r
    exact q
def Mut : Option HO → Prop
  | some (.lst _) => True
  | some (.dK _) => True
  | some (.dT _) => True
  | some (.set _ _) => True
  | some (.ins _ _ _) => True
  | some (.ext _) => True
  | _ => False
section
variable {P : Program} {w : World} {H : Hp} {h h' : Heap} {x e : Addr} {o' : HO}
theorem HOk.write (ok : HOk P w H h) (mu : Mut (H x)) (he : e = x ∨ H e = some (.own x)) (k : ∀ b u, b ≠ e → h.get? b = some u → h'.get? b = some u) (heo : ∃ u, h'.get? e = some u)
    (new : ObjOk P w (upd H x o') h' x o') : HOk P w (upd H x o') h' := fun b u q => by
  have nown : ∀ c y, H c = some (.own y) → c ≠ x := fun c y r z => by subst z; rw [r] at mu; exact mu
  have ntup : ∀ c xs, H c = some (.tup xs) → c ≠ x := fun c xs r z => by subst z; rw [r] at mu; exact mu
  by_cases hb : b = x
  · subst hb; rw [upd_same] at q; cases q; exact new
  · rw [upd_ne hb] at q
    by_cases hbe : b = e
    · have q' : H b = some (.own x) := by
        rcases he with z | z
        · exact absurd (hbe.trans z) hb
        · rw [hbe]; exact z
      rw [q] at q'; cases q'
      obtain ⟨v, hv⟩ := heo
      exact ⟨v, by rw [hbe]; exact hv⟩
    · refine (ok b u q).stay (fun c v hc r => k c v ?_ r) (fun c r => by rw [upd_ne (nown c b r)]; exact r) fun c xs r => by rw [upd_ne (ntup c xs r)]; exact r
      rcases hc with rfl | hc
      · exact hbe
      · rintro rfl
        rcases he with z | z
        · exact nown c b hc z
        · rw [hc] at z; cases z; exact hb rfl
end
/-! ### kept unless tracked; of the frames at fs (the callers') the slots may change (an exception that passes writes there); of the records at ex (iterators) nothing is said -/
structure Un (fs ex : List Addr) (H H' : Hp) (h h' : Heap) : Prop where
  keep : ∀ b o, h.get? b = some o → H b = none → b ∉ fs → b ∉ ex → h'.get? b = some o
  slot : ∀ b o, h.get? b = some o → H b = none → b ∈ fs → b ∉ ex → ∃ sl, h'.get? b = some { o with slots := sl }
  free : ∀ b o, h.get? b = some o → H b = none → b ∉ ex → H' b = none
  there : ∀ b o, h.get? b = some o → b ∉ ex → ∃ o', h'.get? b = some o'
  tups : ∀ b xs, H b = some (.tup xs) → H' b = some (.tup xs)
  frzs : ∀ b o u, H b = some (.frz o u) → H' b = some (.frz o u)
  tbls : ∀ b ps, H b = some (.tbl ps) → ∃ more, H' b = some (.tbl (ps ++ more))
section
variable {fs fs' ex ex' : List Addr} {H H1 H2 : Hp} {h h1 h2 h' : Heap} {a x e : Addr} {o : HO}
theorem Un.any (u : Un fs ex H H1 h h1) {b : Addr} {ob : Obj} (q : h.get? b = some ob) (n : H b = none) (hx : b ∉ ex) : ∃ sl, h1.get? b = some { ob with slots := sl } := by
  by_cases hb : b ∈ fs
  · exact u.slot b ob q n hb hx
  · exact ⟨ob.slots, u.keep b ob q n hb hx⟩
theorem Un.kept (k : ∀ b u, h.get? b = some u → h'.get? b = some u) : Un fs ex H H h h' :=
  ⟨fun b ob q _ _ _ => k b ob q, fun b ob q _ _ _ => ⟨ob.slots, k b ob q⟩, fun _ _ _ n _ => n, fun b ob q _ => ⟨ob, k b ob q⟩, fun _ _ q => q, fun _ _ _ q => q, fun _ ps q => ⟨#[], by rw [q]; simp⟩⟩
theorem Un.refl : Un fs ex H H h h := Un.kept fun _ _ q => q
theorem Un.laid (k : ∀ b u, h.get? b = some u → h'.get? b = some u) (hp : h.objs.size ≤ a) (hn : H a = none) : Un fs ex H (upd H a o) h h' where
  keep := fun b u q _ _ _ => k b u q
  slot := fun b u q _ _ _ => ⟨u.slots, k b u q⟩
  free := fun b u q n _ => by rw [upd_ne (Nat.ne_of_lt (Nat.lt_of_lt_of_le (Heap.lt_size q) hp))]; exact n
  there := fun b u q _ => ⟨u, k b u q⟩
  tups := fun b xs q => by rw [upd_ne (ne_of_none q hn)]; exact q
  frzs := fun b u xs q => by rw [upd_ne (ne_of_none q hn)]; exact q
  tbls := fun b ps q => ⟨#[], by rw [upd_ne (ne_of_none q hn), q]; simp⟩
theorem Un.write (mu : Mut (H x)) (he : e = x ∨ H e = some (.own x)) (k : ∀ b u, b ≠ e → h.get? b = some u → h'.get? b = some u) (heo : ∃ u, h'.get? e = some u) : Un fs ex H (upd H x o) h h' := by
  have hx : ∀ b, H b = none → b ≠ x := fun b n z => by subst z; rw [n] at mu; exact mu
  have hb : ∀ b, H b = none → b ≠ e := fun b n z => by
    subst z
    rcases he with r | r
    · exact hx b n r
    · rw [n] at r; cases r
  have hm : ∀ b u, H b = some u → ¬ Mut (some u) → b ≠ x := fun b u q nm z => by subst z; rw [q] at mu; exact nm mu
  refine ⟨fun b u q n _ _ => k b u (hb b n) q, fun b u q n _ _ => ⟨u.slots, k b u (hb b n) q⟩, fun b u q n _ => by rw [upd_ne (hx b n)]; exact n, fun b u q _ => ?_,
    fun b xs q => by rw [upd_ne (hm b _ q fun z => z)]; exact q, fun b u xs q => by rw [upd_ne (hm b _ q fun z => z)]; exact q, fun b ps q => ⟨#[], by rw [upd_ne (hm b _ q fun z => z), q]; simp⟩⟩
  by_cases hbe : b = e
  · subst hbe; exact heo
  · exact ⟨u, k b u hbe q⟩
end
/-! ### the heap without what is tracked -/
def trk (h : Heap) (H : Hp) : List Addr := (List.range h.objs.size).filter fun a => (H a).isSome
def hidT (h : Heap) (H : Hp) : Heap := PySem.W.hideAll h (trk h H)
theorem hidT_size (h : Heap) (H : Hp) : (hidT h H).objs.size = h.objs.size := PySem.W.hideAll_size _ _
theorem hidT_get {h : Heap} {H : Hp} {b : Addr} {o : Obj} (e : h.get? b = some o) (n : H b = none) : (hidT h H).get? b = some o :=
  PySem.W.hideAll_get _ e fun hm => by
    have q : (H b).isSome = true := (List.mem_filter.mp hm).2
    rw [n] at q; simp at q
theorem of_hidT {h : Heap} {H : Hp} {b : Addr} {o : Obj} (e : (hidT h H).get? b = some o) : h.get? b = some o ∧ H b = none := by
  have e' : h.get? b = some o := PySem.W.of_hideAll (trk h H) e
  refine ⟨e', ?_⟩
  cases q : H b with
  | none => rfl
  | some x =>
    have hm : b ∈ trk h H := List.mem_filter.mpr ⟨List.mem_range.mpr (Heap.lt_size e'), by simp [q]⟩
    have z : (hidT h H).get? b = none := PySem.W.hideAll_none (trk h H) hm
    rw [z] at e; cases e
end L2
namespace L2
open PySem PySem.Spec PyProof.Rows
structure Mod (K : PySem.W.Frag) (mg : Str → Option Value) (base : Heap) : Prop where
  kin : K.In base
  glob : base.Ns mainGlobals mg
  blt : ∃ mb, base.Ns builtinsNs mb ∧ ∀ x : Str, x ≠ "__name__" → mb x = bootBuiltins x
  nolimit : base.NoLimit
/-- the context: a def's body (or a comprehension's block) running. base: fixed through the whole law; s₀, H₀: the entry; outer: the frames whose slots others may change (a def's callers); stack: all frames that run;
   ex: iterators that were made ahead of the entry and are walked here (a comprehension's); fn: the names whose cells were made at the entry (a def: all; a comprehension's block: its own); calm: not within an except suite; pn: pins that every state bears; xe: what is wanted of an exception that leaves the code -/
structure Cx where
  prog : Program
  w : World
  K : PySem.W.Frag
  mg : Str → Option Value
  base : Heap
  A : Around
  N : List Str
  s₀ : Shared
  H₀ : Hp
  env : Env
  outer : List Env
  stack : List Env
  ex : List Addr
  fn : Str → Bool
  calm : Bool
  pn : List (Addr × Obj)
  xe : Value → Shared → Prop
def frs (l : List Env) : List Addr := l.filterMap (·.frame)
abbrev Cx.fs (X : Cx) : List Addr := frs X.outer
def Vis (sc : Scope) (x : Str) : Prop := sc.names.lookup x = some .local ∨ sc.names.lookup x = some .cell ∨ sc.names.lookup x = some .free
def Loc (sc : Scope) (x : Str) : Prop := sc.names.lookup x = some .local ∨ sc.names.lookup x = some .cell
def Look (env : Env) (h : Heap) (m : Str → Option Value) (x : Str) (u : Value) : Prop :=
  (env.kindOf x = some .local ∧ m x = some u) ∨ ((env.kindOf x = some .cell ∨ env.kindOf x = some .free) ∧ ∃ c, env.cells.lookup x = some c ∧ h.IsCell c (some u))
def TokB (mg : Str → Option Value) (n : Nat) : Prop := ∀ x v u, mg x = some (.str v u) → u < n ∧ u ≠ 0
theorem TokB.mono {mg : Str → Option Value} {n m : Nat} (h : TokB mg n) (l : n ≤ m) : TokB mg m := fun x v u e => ⟨Nat.lt_of_lt_of_le (h x v u e).1 l, (h x v u e).2⟩
structure Cx.Ok (X : Cx) : Prop where
  mod : Mod X.K X.mg X.base
  kind : X.env.scope.kind = .function
  glob : X.env.globals = mainGlobals
  blt : X.env.builtins = builtinsNs
  above : X.s₀.heap.objs.size ≤ X.env.locals
  inj : ∀ x y c, X.env.cells.lookup x = some c → X.env.cells.lookup y = some c → x = y
  has : ∀ x, (X.env.kindOf x = some .cell ∨ X.env.kindOf x = some .free) → ∃ c, X.env.cells.lookup x = some c
  cab : ∀ x c, X.fn x = true → X.env.cells.lookup x = some c → X.s₀.heap.objs.size ≤ c
  hd : X.calm = true → X.A.handled = none
  frames : X.A.frames = some X.stack
  stk : X.stack = X.outer ∨ (X.stack = X.env :: X.outer ∧ X.env.frame = some X.env.locals)
  exf : ∀ b ∈ X.ex, b ≠ X.env.locals ∧ ∀ x c, X.env.cells.lookup x = some c → c ≠ b
  bs : ∀ b o, X.base.get? b = some o → X.s₀.heap.get? b = some o ∧ X.H₀ b = none
  bsz : X.base.objs.size ≤ X.s₀.heap.objs.size
  noex : ∀ b o, X.base.get? b = some o → b ∉ X.ex
  exfs : ∀ b ∈ X.ex, b ∉ X.fs
  funs : X.s₀.heap.FunFrames X.base X.outer
  frf : ∀ b ∈ X.fs, X.H₀ b = none
  tk : TokB X.mg X.s₀.toks
structure Inv (X : Cx) (pins : List (Addr × Obj)) (σ : List (Option V)) (H : Hp) (s : Shared) : Prop where
  ok : X.Ok
  os : s.os = X.s₀.os
  bare : AllBare s.gens
  base : Un X.fs X.ex X.H₀ H X.s₀.heap s.heap
  loc : ∃ m, s.heap.Ns X.env.locals m ∧ ∀ (i : Nat) (x : Str) (v : V), X.N[i]? = some x → σ[i]? = some (some v) → Vis X.env.scope x → ∃ u, RelV v u ∧ Look X.env s.heap m x u
  cell : ∀ x c, X.env.cells.lookup x = some c → ∃ v, s.heap.IsCell c v
  free : H X.env.locals = none
  freeC : ∀ x c, X.env.cells.lookup x = some c → H c = none
  pin : ∀ p ∈ X.pn ++ pins, s.heap.get? p.1 = some p.2 ∧ H p.1 = none ∧ p.1 ≠ X.env.locals ∧ p.1 ∉ X.fs ∧ ∀ v, p.2.data ≠ .cell v
  hok : HOk X.prog X.w H s.heap
  len : σ.length = X.N.length
  up : X.s₀.toks ≤ s.toks
section
variable {X : Cx} {pins : List (Addr × Obj)} {σ : List (Option V)} {H H' : Hp} {s : Shared} {h' : Heap}
theorem Cx.Ok.nofr (ok : X.Ok) {b : Addr} {o : Obj} (e : X.base.get? b = some o) : b ∉ X.fs := fun hb => by
  have := (ok.funs.mem hb).1
  rw [e] at this; cases this
theorem Inv.tk (I : Inv X pins σ H s) : TokB X.mg s.toks := I.ok.tk.mono I.up
theorem Inv.bs (I : Inv X pins σ H s) : ∀ b o, X.base.get? b = some o → s.heap.get? b = some o ∧ H b = none := fun b o e =>
  ⟨I.base.keep b o (I.ok.bs b o e).1 (I.ok.bs b o e).2 (I.ok.nofr e) (I.ok.noex b o e), I.base.free b o (I.ok.bs b o e).1 (I.ok.bs b o e).2 (I.ok.noex b o e)⟩
theorem Inv.bk (I : Inv X pins σ H s) : ∀ b o, X.base.get? b = some o → s.heap.get? b = some o := fun b o e => (I.bs b o e).1
theorem Inv.mod (I : Inv X pins σ H s) : Mod X.K X.mg X.base := I.ok.mod
theorem Inv.kIn (I : Inv X pins σ H s) : X.K.In s.heap := I.ok.mod.kin.keeps I.bk
theorem Inv.lt (I : Inv X pins σ H s) : X.env.locals < s.heap.objs.size := let ⟨_, hn, _⟩ := I.loc; hn.lt
theorem Inv.sz (I : Inv X pins σ H s) : X.s₀.heap.objs.size ≤ s.heap.objs.size := Nat.le_trans I.ok.above (Nat.le_of_lt I.lt)
theorem Inv.nofs (I : Inv X pins σ H s) {a : Addr} (h : s.heap.objs.size ≤ a) : a ∉ X.fs := fun hb => by
  obtain ⟨_, o, ho, _⟩ := I.ok.funs.mem hb
  exact absurd (Nat.lt_of_lt_of_le (Heap.lt_size ho) (Nat.le_trans I.sz h)) (Nat.lt_irrefl _)
theorem Inv.cne (I : Inv X pins σ H s) : ∀ x c, X.env.cells.lookup x = some c → c ≠ X.env.locals := fun x c e z => by
  obtain ⟨v, o, ho, hd⟩ := I.cell x c e
  obtain ⟨m, ⟨o', es, ep, ho', hd', _⟩, _⟩ := I.loc
  rw [z, ho'] at ho; cases ho; rw [hd'] at hd; cases hd
theorem Inv.funs (I : Inv X pins σ H s) : s.heap.FunFrames X.base X.outer := by
  have all : ∀ (l : List Env), (∀ b ∈ frs l, b ∈ X.fs) → X.s₀.heap.FunFrames X.base l → s.heap.FunFrames X.base l := by
    intro l
    induction l with
    | nil => intro _ _; trivial
    | cons env r ih =>
      intro hs hl
      obtain ⟨hk, ⟨L, o, hf, hn, ho, hd⟩, hr⟩ := hl
      have hL : L ∈ X.fs := hs L (by unfold frs; rw [List.filterMap_cons, hf]; exact List.mem_cons_self)
      obtain ⟨sl, e⟩ := I.base.slot L o ho (I.ok.frf L hL) hL fun z => I.ok.exfs L z hL
      exact ⟨hk, ⟨L, _, hf, hn, e, hd⟩, ih (fun b hb => hs b (by unfold frs; rw [List.filterMap_cons, hf]; exact List.mem_cons_of_mem _ hb)) hr⟩
  exact all X.outer (fun _ hb => hb) I.ok.funs
theorem Inv.stack (I : Inv X pins σ H s) : s.heap.FunFrames X.base X.stack := by
  rcases I.ok.stk with e | ⟨e, hf⟩
  · rw [e]; exact I.funs
  · rw [e]
    obtain ⟨m, hn, _⟩ := I.loc
    refine .cons (by rw [I.ok.kind]; decide) hf hn ?_ I.funs
    exact Heap.get?_none_of_le (Nat.le_trans I.ok.bsz I.ok.above)
theorem Inv.stkSub (I : Inv X pins σ H s) : ∀ b ∈ frs X.stack, b ∈ X.env.locals :: X.fs := fun b hb => by
  rcases I.ok.stk with e | ⟨e, hf⟩
  · rw [e] at hb; exact List.mem_cons_of_mem _ hb
  · rw [e] at hb
    unfold frs at hb
    rw [List.filterMap_cons, hf] at hb
    exact hb
theorem Inv.stkFree (I : Inv X pins σ H s) : ∀ b ∈ frs X.stack, H b = none := fun b hb => by
  rcases List.mem_cons.mp (I.stkSub b hb) with e | hb
  · rw [e]; exact I.free
  · obtain ⟨_, o, ho, _⟩ := I.ok.funs.mem hb
    exact I.base.free b o ho (I.ok.frf b hb) fun z => I.ok.exfs b z hb
theorem Inv.step {g' : Array GenState} {t' : Nat} {d' : Drawn} {ch : List Addr} (I : Inv X pins σ H s)
    (hch : ∀ b ∈ ch, (b ∈ X.ex ∨ X.s₀.heap.objs.size ≤ b) ∧ b ≠ X.env.locals ∧ (∀ x c, X.env.cells.lookup x = some c → c ≠ b) ∧ ∀ p ∈ X.pn ++ pins, p.1 ≠ b)
    (keep : ∀ b o, b ≠ X.env.locals → b ∉ X.fs → b ∉ ch → s.heap.get? b = some o → H b = none → h'.get? b = some o)
    (slot : ∀ b o, b ≠ X.env.locals → b ∈ X.fs → b ∉ ch → s.heap.get? b = some o → H b = none → ∃ sl, h'.get? b = some { o with slots := sl }) (free : ∀ b o, b ∉ ch → s.heap.get? b = some o → H b = none → H' b = none)
    (there : ∀ b o, b ∉ ch → s.heap.get? b = some o → ∃ o', h'.get? b = some o')
    (tups : ∀ b xs, H b = some (.tup xs) → H' b = some (.tup xs)) (frzs : ∀ b o u, H b = some (.frz o u) → H' b = some (.frz o u)) (tbls : ∀ b ps, H b = some (.tbl ps) → ∃ more, H' b = some (.tbl (ps ++ more)))
    (ns : ∀ m, s.heap.Ns X.env.locals m → h'.Ns X.env.locals m) (hok : HOk X.prog X.w H' h') (hg : AllBare g') (ht : X.s₀.toks ≤ t') :
    Inv X pins σ H' { s with heap := h', gens := g', drawn := d', toks := t' } := by
  have neL : ∀ b o, X.s₀.heap.get? b = some o → b ≠ X.env.locals := fun b o e => Nat.ne_of_lt (Nat.lt_of_lt_of_le (Heap.lt_size e) I.ok.above)
  have neC : ∀ b o, X.s₀.heap.get? b = some o → b ∉ X.ex → b ∉ ch := fun b o e hx hb => by
    rcases (hch b hb).1 with z | z
    · exact hx z
    · exact absurd (Nat.lt_of_lt_of_le (Heap.lt_size e) z) (Nat.lt_irrefl _)
  have cellK : ∀ x c, X.env.cells.lookup x = some c → ∀ v, s.heap.IsCell c v → h'.IsCell c v := fun x c e v ⟨o, ho, hd⟩ => by
    have nch : c ∉ ch := fun z => (hch c z).2.2.1 x c e rfl
    by_cases hc : c ∈ X.fs
    · obtain ⟨sl, q⟩ := slot c o (I.cne x c e) hc nch ho (I.freeC x c e)
      exact ⟨_, q, hd⟩
    · exact ⟨o, keep c o (I.cne x c e) hc nch ho (I.freeC x c e), hd⟩
  refine ⟨I.ok, I.os, hg, ⟨fun b o e n hb hx => ?_, fun b o e n hb hx => ?_, fun b o e n hx => ?_, fun b o e hx => ?_, fun b xs e => tups b xs (I.base.tups b xs e), fun b o xs e => frzs b o xs (I.base.frzs b o xs e), fun b ps e => ?_⟩, ?_, fun x c e => ?_, ?_, fun x c e => ?_, fun p hp => ?_, hok, I.len, ht⟩
  · exact keep b o (neL b o e) hb (neC b o e hx) (I.base.keep b o e n hb hx) (I.base.free b o e n hx)
  · obtain ⟨sl, e1⟩ := I.base.slot b o e n hb hx
    obtain ⟨sl', e2⟩ := slot b _ (neL b o e) hb (neC b o e hx) e1 (I.base.free b o e n hx)
    exact ⟨sl', e2⟩
  · obtain ⟨o', e1⟩ := I.base.there b o e hx
    exact free b o' (neC b o e hx) e1 (I.base.free b o e n hx)
  · obtain ⟨o', e1⟩ := I.base.there b o e hx
    exact there b o' (neC b o e hx) e1
  · obtain ⟨m1, e1⟩ := I.base.tbls b ps e
    obtain ⟨m2, e2⟩ := tbls b _ e1
    exact ⟨m1 ++ m2, by rw [e2, Array.append_assoc]⟩
  · obtain ⟨m, hn, hl⟩ := I.loc
    refine ⟨m, ns m hn, fun i x v e1 e2 e3 => ?_⟩
    obtain ⟨u, r, l⟩ := hl i x v e1 e2 e3
    refine ⟨u, r, ?_⟩
    rcases l with l | ⟨k, c, e, z⟩
    · exact .inl l
    · exact .inr ⟨k, c, e, cellK x c e _ z⟩
  · obtain ⟨v, z⟩ := I.cell x c e
    exact ⟨v, cellK x c e v z⟩
  · obtain ⟨m, ⟨o, _, _, ho, _⟩, _⟩ := I.loc
    exact free _ o (fun z => (hch _ z).2.1 rfl) ho I.free
  · obtain ⟨v, o, ho, hd⟩ := I.cell x c e
    exact free c o (fun z => (hch c z).2.2.1 x c e rfl) ho (I.freeC x c e)
  · obtain ⟨e, n, ne, nf, d⟩ := I.pin p hp
    have nch : p.1 ∉ ch := fun z => (hch p.1 z).2.2.2 p hp rfl
    exact ⟨keep p.1 p.2 ne nf nch e n, free p.1 p.2 nch e n, ne, nf, d⟩
theorem Inv.un {t' : Nat} (I : Inv X pins σ H s) (u : Un X.fs [] H H' s.heap h') (hok : HOk X.prog X.w H' h') (ht : s.toks ≤ t' := by first | exact Nat.le_refl _ | exact Nat.le_succ _ | assumption | omega) : Inv X pins σ H' { s with heap := h', toks := t' } := by
  obtain ⟨m, ⟨o, es, ep, ho, r⟩, _⟩ := id I.loc
  obtain ⟨sl, hL⟩ := u.any ho I.free (by simp)
  exact I.step (g' := s.gens) (d' := s.drawn) (ch := []) (fun _ z => nomatch z) (fun b o _ hb _ e n => u.keep b o e n hb (by simp)) (fun b o _ hb _ e n => u.slot b o e n hb (by simp)) (fun b o _ e n => u.free b o e n (by simp)) (fun b o _ e => u.there b o e (by simp)) u.tups u.frzs u.tbls (fun m' hm => by
    obtain ⟨o', es', ep', ho', r'⟩ := hm
    rw [ho] at ho'; cases ho'
    exact ⟨_, es', ep', hL, r'⟩) hok I.bare (Nat.le_trans I.up ht)
theorem Inv.call {g' : Array GenState} {t' : Nat} {d' : Drawn} {ch : List Addr} (I : Inv X pins σ H s) (u : Un (frs X.stack) ch H H' s.heap h') (hok : HOk X.prog X.w H' h') (hg : AllBare g')
    (hch : ∀ b ∈ ch, (b ∈ X.ex ∨ X.s₀.heap.objs.size ≤ b) ∧ b ≠ X.env.locals ∧ (∀ x c, X.env.cells.lookup x = some c → c ≠ b) ∧ ∀ p ∈ X.pn ++ pins, p.1 ≠ b) (ht : X.s₀.toks ≤ t') :
    Inv X pins σ H' { s with heap := h', gens := g', drawn := d', toks := t' } := by
  obtain ⟨m, ⟨o, es, ep, ho, r⟩, _⟩ := id I.loc
  obtain ⟨sl, hL⟩ := u.any ho I.free fun z => (hch _ z).2.1 rfl
  exact I.step (ch := ch) hch (fun b o hL hb hc e n => u.keep b o e n (fun z => (List.mem_cons.mp (I.stkSub b z)).elim hL hb) hc) (fun b o _ _ hc e n => u.any e n hc) (fun b o hc e n => u.free b o e n hc) (fun b o hc e => u.there b o e hc) u.tups u.frzs u.tbls (fun m' hm => by
    obtain ⟨o', es', ep', ho', r'⟩ := hm
    rw [ho] at ho'; cases ho'
    exact ⟨_, es', ep', hL, r'⟩) hok hg ht
theorem Inv.turned {t' : Nat} {it : Addr} (I : Inv X pins σ H s) (k : ∀ b o, b ≠ it → s.heap.get? b = some o → h'.get? b = some o) (hn : H it = none) (hL : it ≠ X.env.locals)
    (h1 : it ∈ X.ex ∨ X.s₀.heap.objs.size ≤ it) (h2 : ∀ x c, X.env.cells.lookup x = some c → c ≠ it) (h3 : ∀ p ∈ X.pn ++ pins, p.1 ≠ it) (ht : s.toks ≤ t' := by first | exact Nat.le_refl _ | exact Nat.le_succ _ | assumption | omega) : Inv X pins σ H { s with heap := h', toks := t' } := by
  have nit : ∀ b u, H b = some u → b ≠ it := fun b u e z => by rw [z, hn] at e; cases e
  refine I.step (g' := s.gens) (d' := s.drawn) (ch := [it]) (fun b hb => ?_) (fun b o _ _ hc e _ => k b o (fun z => hc (by simp [z])) e) (fun b o _ _ hc e _ => ⟨o.slots, k b o (fun z => hc (by simp [z])) e⟩) (fun _ _ _ _ n => n)
    (fun b o hc e => ⟨o, k b o (fun z => hc (by simp [z])) e⟩) (fun _ _ e => e) (fun _ _ _ e => e) (fun b ps e => ⟨#[], by rw [e]; simp⟩) (fun m hm => ?_) (fun b u e => ?_) I.bare (Nat.le_trans I.up ht)
  · have e : b = it := by simpa using hb
    subst e
    exact ⟨h1, hL, h2, h3⟩
  · obtain ⟨o, es, ep, ho, r⟩ := hm
    exact ⟨o, es, ep, k _ o (Ne.symm hL) ho, r⟩
  · refine (I.hok b u e).stay (fun c v hc q => k c v ?_ q) (fun _ q => q) fun _ _ q => q
    rcases hc with z | z
    · rw [z]; exact nit b u e
    · exact nit c _ z
theorem Inv.tok (I : Inv X pins σ H s) (t' : Nat) (ht : s.toks ≤ t' := by first | exact Nat.le_refl _ | exact Nat.le_succ _ | assumption | omega) : Inv X pins σ H { s with toks := t' } := I.un (h' := s.heap) (t' := t') Un.refl I.hok ht
theorem Inv.kept {t' : Nat} (I : Inv X pins σ H s) (k : ∀ b u, s.heap.get? b = some u → h'.get? b = some u) (ht : s.toks ≤ t' := by first | exact Nat.le_refl _ | exact Nat.le_succ _ | assumption | omega) : Inv X pins σ H { s with heap := h', toks := t' } := I.un (Un.kept k) (I.hok.kept k) ht
theorem Inv.laid {a : Addr} {o : HO} {t' : Nat} (I : Inv X pins σ H s) (k : ∀ b u, s.heap.get? b = some u → h'.get? b = some u) (hp : s.heap.objs.size ≤ a) (new : ObjOk X.prog X.w (upd H a o) h' a o) (ht : s.toks ≤ t' := by first | exact Nat.le_refl _ | exact Nat.le_succ _ | assumption | omega) :
    Inv X pins σ (upd H a o) { s with heap := h', toks := t' } := I.un (Un.laid k hp (I.hok.fresh hp)) (I.hok.laid k hp new) ht
theorem Inv.write {x e : Addr} {o : HO} {t' : Nat} (I : Inv X pins σ H s) (mu : Mut (H x)) (he : e = x ∨ H e = some (.own x)) (k : ∀ b u, b ≠ e → s.heap.get? b = some u → h'.get? b = some u) (heo : ∃ u, h'.get? e = some u)
    (new : ObjOk X.prog X.w (upd H x o) h' x o) (ht : s.toks ≤ t' := by first | exact Nat.le_refl _ | exact Nat.le_succ _ | assumption | omega) : Inv X pins σ (upd H x o) { s with heap := h', toks := t' } := I.un (Un.write mu he k heo) (I.hok.write mu he k heo new) ht
theorem Inv.weak {σ' : List (Option V)} (I : Inv X pins σ H s) (hl : σ'.length = σ.length) (w : ∀ (i : Nat) v, σ'[i]? = some (some v) → σ[i]? = some (some v)) : Inv X pins σ' H s :=
  ⟨I.ok, I.os, I.bare, I.base, let ⟨m, hn, hl'⟩ := I.loc; ⟨m, hn, fun i x v e1 e2 e3 => hl' i x v e1 (w i v e2) e3⟩, I.cell, I.free, I.freeC, I.pin, I.hok, hl.trans I.len, I.up⟩
theorem Inv.pins_of {pins' : List (Addr × Obj)} (I : Inv X pins σ H s) (h : ∀ p ∈ pins', s.heap.get? p.1 = some p.2 ∧ H p.1 = none ∧ p.1 ≠ X.env.locals ∧ p.1 ∉ X.fs ∧ ∀ v, p.2.data ≠ .cell v) : Inv X pins' σ H s :=
  ⟨I.ok, I.os, I.bare, I.base, I.loc, I.cell, I.free, I.freeC, fun p hp => (List.mem_append.mp hp).elim (fun z => I.pin p (List.mem_append_left _ z)) (h p), I.hok, I.len, I.up⟩
theorem nodup_ix {N : List Str} (hN : N.Nodup) {i j : Nat} {x : Str} (a : N[i]? = some x) (b : N[j]? = some x) : i = j := by
  obtain ⟨h1, e1⟩ := List.getElem?_eq_some_iff.mp a
  obtain ⟨h2, e2⟩ := List.getElem?_eq_some_iff.mp b
  exact (List.getElem_inj hN).mp (e1.trans e2.symm)
theorem store_ok2 {M : Model} {A : Around} {E : Value → Shared → Prop} {i : Nat} {x : Str} {v : V} {u : Value} {Q : Unit → Shared → Prop} (I : Inv X pins σ H s) (hN : X.N.Nodup) (hi : X.N[i]? = some x) (hx : Loc X.env.scope x) (r : RelV v u)
    (h : ∀ s', Inv X pins (σ.set i (some v)) H s' → (∃ a, Heap.SameBut a s.heap s'.heap ∧ (a = X.env.locals ∨ X.env.cells.lookup x = some a)) → Q () s') (hf : X.fn x = true ∨ X.env.scope.names.lookup x = some .local := by first | exact .inl rfl | exact .inr rfl | assumption) : wpAny M A (storeName X.env x u) Q E s := by
  obtain ⟨m, hn, hl⟩ := id I.loc
  have hcls : (X.env.scope.kind == .class || (X.env.scope.kind == .module && X.env.locals != X.env.globals)) = false := by rw [I.ok.kind]; rfl
  have hiσ : i < σ.length := by rw [I.len]; exact (List.getElem?_eq_some_iff.mp hi).1
  have cne := I.cne
  have tracked : ∀ {a : Addr} {h' : Heap}, (∃ o, s.heap.get? a = some o ∧ H a = none) → Heap.SameBut a s.heap h' → HOk X.prog X.w H h' := fun {a h'} ha hs b ob e => by
    obtain ⟨_, _, hfree⟩ := ha
    refine (I.hok b ob e).stay (fun c w' hc q => (hs.2 c ?_).trans q) (fun _ q => q) fun _ _ q => q
    rintro rfl
    rcases hc with rfl | hc
    · rw [hfree] at e; cases e
    · rw [hfree] at hc; cases hc
  rcases hx with hk | hk
  · refine wpAny_storeName_local hk hn (fun h' hn' hs => ?_) hcls
    obtain ⟨oL, _, _, hoL, _⟩ := id hn
    refine h _ ⟨I.ok, I.os, I.bare, ⟨fun b o e n hb hx => ?_, fun b o e n hb hx => ?_, I.base.free, fun b o e hx => ?_, I.base.tups, I.base.frzs, I.base.tbls⟩, ⟨_, hn', fun j y v' e1 e2 e3 => ?_⟩, fun y c e => ?_, I.free, I.freeC, fun p hp => ?_, tracked ⟨oL, hoL, I.free⟩ hs, by simpa using I.len, Nat.le_trans I.up (by first | exact Nat.le_refl _ | exact Nat.le_succ _ | exact Nat.le_add_right _ _)⟩ ⟨_, hs, .inl rfl⟩
    · exact (hs.2 b (Nat.ne_of_lt (Nat.lt_of_lt_of_le (Heap.lt_size e) I.ok.above))).trans (I.base.keep b o e n hb hx)
    · obtain ⟨sl, e1⟩ := I.base.slot b o e n hb hx
      exact ⟨sl, (hs.2 b (Nat.ne_of_lt (Nat.lt_of_lt_of_le (Heap.lt_size e) I.ok.above))).trans e1⟩
    · obtain ⟨o', e1⟩ := I.base.there b o e hx
      exact ⟨o', (hs.2 b (Nat.ne_of_lt (Nat.lt_of_lt_of_le (Heap.lt_size e) I.ok.above))).trans e1⟩
    · by_cases hj : j = i
      · subst hj
        rw [hi] at e1; cases e1
        rw [List.getElem?_set_self hiσ] at e2
        cases e2
        exact ⟨u, r, .inl ⟨hk, by simp⟩⟩
      · rw [List.getElem?_set_ne (Ne.symm hj)] at e2
        obtain ⟨u', r', q⟩ := hl j y v' e1 e2 e3
        refine ⟨u', r', ?_⟩
        rcases q with ⟨k, e⟩ | ⟨k, c, e, z⟩
        · refine .inl ⟨k, ?_⟩
          have : y ≠ x := fun e => hj (nodup_ix hN e1 (e ▸ hi))
          simp [this, e]
        · exact .inr ⟨k, c, e, z.sameBut hs (cne y c e)⟩
    · obtain ⟨w', z⟩ := I.cell y c e
      exact ⟨w', z.sameBut hs (cne y c e)⟩
    · obtain ⟨e, n, ne, nf, d⟩ := I.pin p hp
      exact ⟨(hs.2 p.1 ne).trans e, n, ne, nf, d⟩
  · have hfn : X.fn x = true := by
      rcases hf with z | z
      · exact z
      · rw [z] at hk; cases hk
    obtain ⟨c, hc⟩ := I.ok.has x (.inl hk)
    obtain ⟨w', z⟩ := I.cell x c hc
    refine wpAny_storeName_cell I.ok.kind hk hc z (fun h' hc' hs => ?_)
    obtain ⟨oc, hoc, hocd⟩ := id z
    refine h { s with heap := h' } ⟨I.ok, I.os, I.bare, ⟨fun b o e n hb hx => ?_, fun b o e n hb hx => ?_, I.base.free, fun b o e hx => ?_, I.base.tups, I.base.frzs, I.base.tbls⟩, ⟨m, hn.sameBut hs (Ne.symm (cne x c hc)), fun j y v' e1 e2 e3 => ?_⟩, fun y c' e => ?_, I.free, I.freeC, fun p hp => ?_, tracked ⟨oc, hoc, I.freeC x c hc⟩ hs, by simpa using I.len, I.up⟩ ⟨c, hs, .inr hc⟩
    · exact (hs.2 b (Nat.ne_of_lt (Nat.lt_of_lt_of_le (Heap.lt_size e) (I.ok.cab x c hfn hc)))).trans (I.base.keep b o e n hb hx)
    · obtain ⟨sl, e1⟩ := I.base.slot b o e n hb hx
      exact ⟨sl, (hs.2 b (Nat.ne_of_lt (Nat.lt_of_lt_of_le (Heap.lt_size e) (I.ok.cab x c hfn hc)))).trans e1⟩
    · obtain ⟨o', e1⟩ := I.base.there b o e hx
      exact ⟨o', (hs.2 b (Nat.ne_of_lt (Nat.lt_of_lt_of_le (Heap.lt_size e) (I.ok.cab x c hfn hc)))).trans e1⟩
    · by_cases hj : j = i
      · subst hj
        rw [hi] at e1; cases e1
        rw [List.getElem?_set_self hiσ] at e2
        cases e2
        exact ⟨u, r, .inr ⟨.inl hk, c, hc, hc'⟩⟩
      · rw [List.getElem?_set_ne (Ne.symm hj)] at e2
        obtain ⟨u', r', q⟩ := hl j y v' e1 e2 e3
        refine ⟨u', r', ?_⟩
        rcases q with q | ⟨k, c', e, z'⟩
        · exact .inl q
        · refine .inr ⟨k, c', e, z'.sameBut hs ?_⟩
          rintro rfl
          exact hj (nodup_ix hN e1 (I.ok.inj _ _ _ e hc ▸ hi))
    · by_cases hcc : c' = c
      · subst hcc; exact ⟨_, hc'⟩
      · obtain ⟨w2, z2⟩ := I.cell y c' e
        exact ⟨w2, z2.sameBut hs hcc⟩
    · obtain ⟨e, n, ne, nf, d⟩ := I.pin p hp
      refine ⟨(hs.2 p.1 ?_).trans e, n, ne, nf, d⟩
      intro q
      rw [q, hoc] at e
      have q' : oc = p.2 := Option.some.inj e
      exact d w' (by rw [← q']; exact hocd)
theorem store_ok {M : Model} {A : Around} {E : Value → Shared → Prop} {i : Nat} {x : Str} {v : V} {u : Value} {Q : Unit → Shared → Prop} (I : Inv X pins σ H s) (hN : X.N.Nodup) (hi : X.N[i]? = some x) (hx : Loc X.env.scope x) (r : RelV v u)
    (h : ∀ s', Inv X pins (σ.set i (some v)) H s' → Q () s') (hf : X.fn x = true ∨ X.env.scope.names.lookup x = some .local := by first | exact .inl rfl | exact .inr rfl | assumption) : wpAny M A (storeName X.env x u) Q E s :=
  store_ok2 I hN hi hx r (fun s' I' _ => h s' I') hf
theorem Inv.call' {s' : Shared} {ch : List Addr} (I : Inv X pins σ H s) (ho : s'.os = s.os) (u : Un (frs X.stack) ch H H' s.heap s'.heap) (hok : HOk X.prog X.w H' s'.heap) (hg : AllBare s'.gens)
    (hch : ∀ b ∈ ch, (b ∈ X.ex ∨ X.s₀.heap.objs.size ≤ b) ∧ b ≠ X.env.locals ∧ (∀ x c, X.env.cells.lookup x = some c → c ≠ b) ∧ ∀ p ∈ X.pn ++ pins, p.1 ≠ b) (ht : X.s₀.toks ≤ s'.toks) : Inv X pins σ H' s' := by
  obtain ⟨h', g', d', t', o'⟩ := s'
  have e : o' = s.os := ho
  subst e
  exact I.call (g' := g') (t' := t') (d' := d') u hok hg hch ht
end
/-! ### the judgements -/
abbrev XK := Value → Option Addr → Hp → Prop
abbrev St := List (Option V)
abbrev VK := V → Hp → Prop
abbrev TE := St → Hp → VK → Prop
abbrev TT := St → Hp → (Bool → Hp → Prop) → Prop
abbrev TA := St → Hp → (List V → Hp → Prop) → Prop
structure Ends where
  nx : St → Hp → Prop
  rt : VK
  bk : St → Hp → Prop := fun _ _ => False
  ct : St → Hp → Prop := fun _ _ => False
abbrev TS := Ends → St → Hp → Prop
def EP (X : Cx) (pins : List (Addr × Obj)) (σ : St) (Q : VK) (u : Value) (s' : Shared) : Prop := ∃ v H', Inv X pins σ H' s' ∧ RelV v u ∧ Q v H'
def TP (X : Cx) (pins : List (Addr × Obj)) (σ : St) (Q : Bool → Hp → Prop) (b : Bool) (s' : Shared) : Prop := ∃ H', Inv X pins σ H' s' ∧ Q b H'
def AP (X : Cx) (pins : List (Addr × Obj)) (σ : St) (Q : List V → Hp → Prop) (us : List Value) (s' : Shared) : Prop := ∃ vs H', Inv X pins σ H' s' ∧ Vals vs us ∧ Q vs H'
def SP (X : Cx) (pins : List (Addr × Obj)) (D : Ends) (f : Flow) (s' : Shared) : Prop :=
  match f with
  | .next => ∃ σ' H', Inv X pins σ' H' s' ∧ D.nx σ' H'
  | .brk => ∃ σ' H', Inv X pins σ' H' s' ∧ D.bk σ' H'
  | .cont => ∃ σ' H', Inv X pins σ' H' s' ∧ D.ct σ' H'
  | .ret u => ∃ v σ' H', Inv X pins σ' H' s' ∧ RelV v u ∧ D.rt v H'
def PE (X : Cx) (e : Expr) (t : TE) : Prop :=
  ∀ (pins : List (Addr × Obj)) (s : Shared) (σ : St) (H : Hp) (Q : VK), Inv X pins σ H s → t σ H Q → wpAny (model X.prog X.w) X.A (eval e X.env) (EP X pins σ Q) X.xe s
def PT (X : Cx) (e : Expr) (t : TT) : Prop :=
  ∀ (pins : List (Addr × Obj)) (s : Shared) (σ : St) (H : Hp) (Q : Bool → Hp → Prop), Inv X pins σ H s → t σ H Q → wpAny (model X.prog X.w) X.A (isTrue e X.env (eval e X.env)) (TP X pins σ Q) X.xe s
def PW (X : Cx) (e : Expr) (t : TT) : Prop :=
  ∀ (whole : Sem Value) (pins : List (Addr × Obj)) (s : Shared) (σ : St) (H : Hp) (Q : Bool → Hp → Prop), Inv X pins σ H s → t σ H Q → wpAny (model X.prog X.w) X.A (isTrue e X.env whole) (TP X pins σ Q) X.xe s
theorem PW.pt {X : Cx} {e : Expr} {t : TT} (h : PW X e t) : PT X e t := h _
def PA (X : Cx) (es : List Expr) (t : TA) : Prop :=
  ∀ (pos : Pos) (pins : List (Addr × Obj)) (s : Shared) (σ : St) (H : Hp) (Q : List V → Hp → Prop), Inv X pins σ H s → t σ H Q → wpAny (model X.prog X.w) X.A (spliced (backTo pos (starEach es X.env))) (AP X pins σ Q) X.xe s
def PS (X : Cx) (st : Stmt) (t : TS) : Prop :=
  ∀ (pins : List (Addr × Obj)) (s : Shared) (σ : St) (H : Hp) (D : Ends), Inv X pins σ H s → t D σ H → wpAny (model X.prog X.w) X.A (exec st X.env) (SP X pins D) X.xe s
def PSs (X : Cx) (st : List Stmt) (t : TS) : Prop :=
  ∀ (pins : List (Addr × Obj)) (s : Shared) (σ : St) (H : Hp) (D : Ends), Inv X pins σ H s → t D σ H → wpAny (model X.prog X.w) X.A (execs st X.env) (SP X pins D) X.xe s
theorem thn {α : Type} {t : Sem α} {Q Q' : α → Shared → Prop} {M : Model} {A : Around} {E : Value → Shared → Prop} {s : Shared} (h : wpAny M A t Q E s) (hQ : ∀ a s, Q a s → Q' a s) : wpAny M A t Q' E s := wpAny_mono h hQ fun _ _ x => x
end L2
namespace L2
open PySem PySem.Spec PyProof.Rows
section
variable {X : Cx}
/-! ### names and constants -/
def tVar (i : Nat) : TE := fun σ H Q => ∃ v, σ[i]? = some (some v) ∧ Q v H
def tC (v : V) : TE := fun _ H Q => Q v H
theorem pe_var {i : Nat} {x : Str} {pos : Pos} (hN : X.N[i]? = some x) (hv : Vis X.env.scope x) (hd : (x == ("__debug__" : Str)) = false := by decide) (hcd : (x == ("__classdict__" : Str)) = false := by decide) : PE X (.Name x pos) (tVar i) := by
  intro pins s σ H Q I h
  obtain ⟨v, e, h⟩ := h
  obtain ⟨m, hn, hl⟩ := I.loc
  obtain ⟨u, r, l⟩ := hl i x v hN e hv
  have fin : EP X pins σ Q u s := ⟨v, H, I, r, h⟩
  rcases l with ⟨hk, hm⟩ | ⟨hk, c, hc, hcell⟩
  · exact wpAny_Name (wpAny_loadName_local I.ok.kind hk hn hm fin) hd
  · rcases hk with hk | hk
    · exact wpAny_Name (wpAny_loadName_cell I.ok.kind hk hc hcell fin) hd
    · exact wpAny_Name (wpAny_loadName_free I.ok.kind hk hc hcell fin hcd) hd
theorem pe_int {i j pos} : PE X (.Constant (.int i) j pos) (tC (.int i)) := fun _ _ _ H _ I h => wpAny_Constant_int ⟨.int i, H, I.tok _, ⟨_, rfl⟩, h⟩
theorem pe_bl {b j pos} : PE X (.Constant (.bool b) j pos) (tC (.bl b)) := fun _ _ _ H _ I h => Constant_bool ⟨.bl b, H, I, rfl, h⟩
theorem pe_str {x j pos} : PE X (.Constant (.str x) j pos) (tC (.str x)) := fun _ _ _ H _ I h => Calls.Constant_str ⟨.str x, H, I.tok _, ⟨_, rfl⟩, h⟩
def Gl (X : Cx) (x : Str) : Prop := X.env.kindOf x = some .globalImplicit
theorem ld_glob {E : Value → Shared → Prop} {pins : List (Addr × Obj)} {s : Shared} {σ : St} {H : Hp} {x : Str} {u : Value} {pos : Pos} {Q : Value → Shared → Prop} (I : Inv X pins σ H s) (hg : Gl X x) (hm : X.mg x = some u) (h : Q u s)
    (hd : (x == ("__debug__" : Str)) = false := by decide) : wpAny (model X.prog X.w) X.A (eval (.Name x pos) X.env) Q E s :=
  Calls.Name_function_global I.ok.kind hg (Calls.loadGlobal_global (by rw [I.ok.glob]; exact I.mod.glob.keeps I.bk) hm h) hd
theorem ld_blt {E : Value → Shared → Prop} {pins : List (Addr × Obj)} {s : Shared} {σ : St} {H : Hp} {x : Str} {u : Value} {pos : Pos} {Q : Value → Shared → Prop} (I : Inv X pins σ H s) (hg : Gl X x) (hm : X.mg x = none) (hv : bootBuiltins x = some u) (h : Q u s)
    (hn : x ≠ "__name__" := by decide) (hd : (x == ("__debug__" : Str)) = false := by decide) : wpAny (model X.prog X.w) X.A (eval (.Name x pos) X.env) Q E s := by
  obtain ⟨mb, h1, h2⟩ := I.mod.blt
  exact Calls.Name_function_global I.ok.kind hg (Calls.loadGlobal_builtin (by rw [I.ok.glob]; exact I.mod.glob.keeps I.bk) hm (by rw [I.ok.blt]; exact h1.keeps I.bk) ((h2 x hn).trans hv) h) hd
theorem pe_glob {x : Str} {v : V} {u : Value} {pos : Pos} (hg : Gl X x) (hm : X.mg x = some u) (r : RelV v u) (hd : (x == ("__debug__" : Str)) = false := by decide) : PE X (.Name x pos) (tC v) :=
  fun _ _ _ H _ I h => ld_glob I hg hm ⟨v, H, I, r, h⟩ hd
theorem pe_bltn {x : Str} {v : V} {u : Value} {pos : Pos} (hg : Gl X x) (hm : X.mg x = none) (hv : bootBuiltins x = some u) (r : RelV v u) (hn : x ≠ "__name__" := by decide) (hd : (x == ("__debug__" : Str)) = false := by decide) : PE X (.Name x pos) (tC v) :=
  fun _ _ _ H _ I h => ld_blt I hg hm hv ⟨v, H, I, r, h⟩ hn hd
variable {a b : Expr} {ta tb : TE} {pos : Pos}
def tB (t : TE) : TT := fun σ H Q => t σ H fun x H1 => ∃ c, x = .bl c ∧ Q c H1
theorem pt_val {e : Expr} {t : TE} (h : PE X e t) (he : ∀ whole, isTrue e X.env whole = (do let v ← whole; standAt e.pos; holding [v] (truthy v)) := by intro _; rfl) : PT X e (tB t) := by
  intro pins s σ H Q I hw
  refine isTrue_plain (thn (h pins s σ H _ I hw) fun v s1 ⟨x, H1, I1, r1, q1⟩ => ?_) (he _)
  obtain ⟨d, rfl, q⟩ := q1
  cases r1
  exact wpAny_truthy_bool ⟨H1, I1, q⟩
variable {tA tB' : TT} {rest : List Expr}
def tAnd (t u : TT) : TT := fun σ H Q => t σ H fun c H1 => if c = true then u σ H1 Q else Q false H1
def tOr (t u : TT) : TT := fun σ H Q => t σ H fun c H1 => if c = true then Q true H1 else u σ H1 Q
def tNot (t : TT) : TT := fun σ H Q => t σ H fun c H1 => Q (!c) H1
theorem pw_and1 (ha : PT X a tA) : PW X (.BoolOp .And [a] pos) tA := by
  intro wh pins s σ H Q I h
  refine isTrue_and (thn (ha pins s σ H Q I h) fun c s1 e => ?_)
  cases c with
  | true => exact isTrue_and_nil e
  | false => exact e
theorem pw_or1 (ha : PT X a tA) : PW X (.BoolOp .Or [a] pos) tA := by
  intro wh pins s σ H Q I h
  refine isTrue_or (thn (ha pins s σ H Q I h) fun c s1 e => ?_)
  cases c with
  | false => exact isTrue_or_nil e
  | true => exact e
theorem pw_and (ha : PT X a tA) (hb : PW X (.BoolOp .And (b :: rest) pos) tB') : PW X (.BoolOp .And (a :: b :: rest) pos) (tAnd tA tB') := by
  intro wh pins s σ H Q I h
  refine isTrue_and (thn (ha pins s σ H _ I h) fun c s1 ⟨H1, I1, q1⟩ => ?_)
  cases c with
  | true => exact hb wh pins s1 σ H1 Q I1 q1
  | false => exact ⟨H1, I1, q1⟩
theorem pw_or (ha : PT X a tA) (hb : PW X (.BoolOp .Or (b :: rest) pos) tB') : PW X (.BoolOp .Or (a :: b :: rest) pos) (tOr tA tB') := by
  intro wh pins s σ H Q I h
  refine isTrue_or (thn (ha pins s σ H _ I h) fun c s1 ⟨H1, I1, q1⟩ => ?_)
  cases c with
  | true => exact ⟨H1, I1, q1⟩
  | false => exact hb wh pins s1 σ H1 Q I1 q1
theorem pt_not (ha : PT X a tA) : PT X (.UnaryOp .Not a pos) (tNot tA) := by
  intro pins s σ H Q I h
  exact isTrue_not (ha pins s σ H (fun c H1 => Q (!c) H1) I h)
def tAndV (ta tb : TE) : TE := fun σ H Q => ta σ H fun x H1 => ∃ c, x = .bl c ∧ if c = true then tb σ H1 Q else Q (.bl false) H1
def tNotV (ta : TE) : TE := fun σ H Q => ta σ H fun x H1 => ∃ c, x = .bl c ∧ Q (.bl (!c)) H1
theorem pe_one {op} {t : TE} (h : PE X a t) : PE X (.BoolOp op [a] pos) t := fun pins s σ H Q I hw => BoolOp_one (h pins s σ H Q I hw)
theorem pe_and (ha : PE X a ta) (hb : PE X (.BoolOp .And (b :: rest) pos) tb) : PE X (.BoolOp .And (a :: b :: rest) pos) (tAndV ta tb) := by
  intro pins s σ H Q I h
  refine BoolOp_and (thn (ha pins s σ H _ I h) fun v s1 ⟨x, H1, I1, r1, q1⟩ => ?_)
  obtain ⟨c, rfl, q1⟩ := q1
  cases r1
  refine wpAny_truthy_bool ?_
  cases c with
  | true => exact hb pins s1 σ H1 Q I1 q1
  | false => exact ⟨.bl false, H1, I1, rfl, q1⟩
theorem pe_not (ha : PE X a ta) : PE X (.UnaryOp .Not a pos) (tNotV ta) := by
  intro pins s σ H Q I h
  refine UnaryOp_ (thn (ha pins s σ H _ I h) fun v s1 ⟨x, H1, I1, r1, q1⟩ => ?_)
  obtain ⟨c, rfl, q1⟩ := q1
  cases r1
  exact not_of (wpAny_truthy_bool ⟨.bl (!c), H1, I1, rfl, q1⟩)
def tIf (t : TT) (ta tb : TE) : TE := fun σ H Q => t σ H fun c H1 => if c = true then ta σ H1 Q else tb σ H1 Q
theorem pe_ifExp {c : Expr} (hc : PT X c tA) (ha : PE X a ta) (hb : PE X b tb) : PE X (.IfExp c a b pos) (tIf tA ta tb) := by
  intro pins s σ H Q I h
  refine wpAny_IfExp (thn (hc pins s σ H _ I h) fun d s1 ⟨H1, I1, q1⟩ => ?_)
  cases d with
  | true => exact ha pins s1 σ H1 Q I1 q1
  | false => exact hb pins s1 σ H1 Q I1 q1
end
end L2
namespace L2
open PySem PySem.Spec PyProof.Rows
/-! ### a list, a tuple that is read: tracked, frozen, or an object of the module -/
def SqL (K : PySem.W.Frag) (H : Hp) (a : Addr) (xs : List V) : Prop :=
  Rd H a (.lst xs) ∨
    ∃ (o : Obj) (its : Array Value) (n : Nat), K.lookup a = some o ∧ o.cls = .type "list" ∧ o.dict = none ∧ o.data = .seq its n ∧ its.size ≤ sizeLine ∧ Vals xs its.toList
def SqT (K : PySem.W.Frag) (H : Hp) (a : Addr) (xs : List V) : Prop :=
  Rd H a (.tup xs) ∨
    ∃ (o : Obj) (its : Array Value) (n : Nat), K.lookup a = some o ∧ o.cls = .type "tuple" ∧ o.data = .seq its n ∧ its.size ≤ sizeLine ∧ Vals xs its.toList
def absV : Value → Option V
  | .none => some .non
  | .bool b => some (.bl b)
  | .int i _ => some (.int i)
  | .str x _ => some (.str x)
  | .bytes b _ => some (.byt b)
  | .float b _ => some (.flt b)
  | .ref a => some (.ref a)
  | .type n => some (.ty n)
  | _ => none
theorem RelV.abs {x : V} {u : Value} (r : RelV x u) : absV u = some x := by
  cases x with
  | non => cases r; rfl
  | bl _ => cases r; rfl
  | int _ => obtain ⟨t, rfl⟩ := r; rfl
  | str _ => obtain ⟨t, rfl⟩ := r; rfl
  | byt _ => obtain ⟨t, rfl⟩ := r; rfl
  | flt _ => obtain ⟨t, rfl⟩ := r; rfl
  | ref _ => cases r; rfl
  | ty _ => cases r; rfl
theorem RelV.inj {x y : V} {u : Value} (r : RelV x u) (q : RelV y u) : x = y := Option.some.inj (r.abs.symm.trans q.abs)
theorem Vals.inj : ∀ {xs ys : List V} {us : List Value}, Vals xs us → Vals ys us → xs = ys
  | _, _, _, .nil, .nil => rfl
  | _, _, _, .cons r t, .cons r' t' => by rw [r.inj r', Vals.inj t t']
section
variable {X : Cx} {pins : List (Addr × Obj)} {σ : St} {H : Hp} {s : Shared} {a : Addr} {xs ys : List V}
theorem SqL.of {K : PySem.W.Frag} (h : H a = some (.lst xs)) : SqL K H a xs := .inl (.inl h)
theorem SqT.of {K : PySem.W.Frag} (h : H a = some (.tup xs)) : SqT K H a xs := .inl (.inl h)
theorem Inv.list (I : Inv X pins σ H s) (h : SqL X.K H a xs) : ∃ its : List Value, Vals xs its ∧ PlainL s.heap a its.toArray ∧ xs.length ≤ sizeLine := by
  rcases h with h | ⟨o, its, n, hk, hc, hd, hs, hz, r⟩
  · obtain ⟨z, its, n, r, e⟩ := h.ok I.hok
    exact ⟨its, r, ⟨_, n, e, rfl, rfl, rfl⟩, z⟩
  · refine ⟨its.toList, r, ⟨o, n, I.kIn a o hk, hc, hd, by simpa using hs⟩, ?_⟩
    have e := r.length
    simp only [Array.length_toList] at e
    omega
theorem Inv.tuple (I : Inv X pins σ H s) (h : SqT X.K H a xs) : ∃ its : List Value, Vals xs its ∧ IsTup s.heap a its.toArray ∧ xs.length ≤ sizeLine := by
  rcases h with h | ⟨o, its, n, hk, hc, hs, hz, r⟩
  · obtain ⟨z, its, r, p⟩ := h.ok I.hok
    exact ⟨its, r, p, z⟩
  · refine ⟨its.toList, r, ⟨o, I.kIn a o hk, hc, n, by simpa using hs⟩, ?_⟩
    have e := r.length
    simp only [Array.length_toList] at e
    omega
theorem Inv.list_inj (I : Inv X pins σ H s) (h : SqL X.K H a xs) (h' : SqL X.K H a ys) : xs = ys := by
  obtain ⟨its, r, ⟨o, n, e, _, _, d⟩, _⟩ := I.list h
  obtain ⟨its', r', ⟨o', n', e', _, _, d'⟩, _⟩ := I.list h'
  rw [e] at e'; cases e'
  rw [d] at d'
  injection d' with d1 _
  have : its = its' := by simpa using congrArg Array.toList d1
  subst this
  exact r.inj r'
theorem Inv.tuple_inj (I : Inv X pins σ H s) (h : SqT X.K H a xs) (h' : SqT X.K H a ys) : xs = ys := by
  obtain ⟨its, r, ⟨o, e, _, n, d⟩, _⟩ := I.tuple h
  obtain ⟨its', r', ⟨o', e', _, n', d'⟩, _⟩ := I.tuple h'
  rw [e] at e'; cases e'
  rw [d] at d'
  injection d' with d1 _
  have : its = its' := by simpa using congrArg Array.toList d1
  subst this
  exact r.inj r'
end
/-! ### another wish about exceptions -/
abbrev Cx.wish (X : Cx) (E : Value → Shared → Prop) : Cx := { X with xe := E }
abbrev Cx.nox (X : Cx) : Cx := X.wish fun _ _ => False
theorem Cx.Ok.wish {X : Cx} (ok : X.Ok) (E : Value → Shared → Prop) : (X.wish E).Ok :=
  ⟨ok.mod, ok.kind, ok.glob, ok.blt, ok.above, ok.inj, ok.has, ok.cab, ok.hd, ok.frames, ok.stk, ok.exf, ok.bs, ok.bsz, ok.noex, ok.exfs, ok.funs, ok.frf, ok.tk⟩
theorem Cx.Ok.unwish {X : Cx} {E : Value → Shared → Prop} (ok : (X.wish E).Ok) : X.Ok :=
  ⟨ok.mod, ok.kind, ok.glob, ok.blt, ok.above, ok.inj, ok.has, ok.cab, ok.hd, ok.frames, ok.stk, ok.exf, ok.bs, ok.bsz, ok.noex, ok.exfs, ok.funs, ok.frf, ok.tk⟩
section
variable {X : Cx} {pins : List (Addr × Obj)} {σ : St} {H : Hp} {s : Shared} {E : Value → Shared → Prop}
theorem Inv.wish (I : Inv X pins σ H s) (E : Value → Shared → Prop) : Inv (X.wish E) pins σ H s := ⟨I.ok.wish E, I.os, I.bare, I.base, I.loc, I.cell, I.free, I.freeC, I.pin, I.hok, I.len, I.up⟩
theorem Inv.unwish (I : Inv (X.wish E) pins σ H s) : Inv X pins σ H s := ⟨I.ok.unwish, I.os, I.bare, I.base, I.loc, I.cell, I.free, I.freeC, I.pin, I.hok, I.len, I.up⟩
theorem SP.unwish {D : Ends} {f : Flow} {s' : Shared} (h : SP (X.wish E) pins D f s') : SP X pins D f s' := by
  cases f with
  | next => obtain ⟨σ', H', I, q⟩ := h; exact ⟨σ', H', I.unwish, q⟩
  | brk => obtain ⟨σ', H', I, q⟩ := h; exact ⟨σ', H', I.unwish, q⟩
  | cont => obtain ⟨σ', H', I, q⟩ := h; exact ⟨σ', H', I.unwish, q⟩
  | ret u => obtain ⟨v, σ', H', I, r, q⟩ := h; exact ⟨v, σ', H', I.unwish, r, q⟩
theorem PSs.nox {st : List Stmt} {t : TS} (h : PSs X.nox st t) : PSs X st t := fun pins s σ H D I hw =>
  wpAny_mono (h pins s σ H D (I.wish _) hw) (fun _ _ q => q.unwish) fun _ _ z => False.elim z
end
section
variable {X : Cx} {st : Stmt} {rest : List Stmt} {t u : TS} {e : Expr} {te : TE} {pos : Pos}
def tNext : TS := fun D σ H => D.nx σ H
def tSeq (t u : TS) : TS := fun D σ H => t { D with nx := u D } σ H
theorem pss_nil : PSs X [] tNext := fun _ _ σ H _ I h => wpAny_execs_nil ⟨σ, H, I, h⟩
theorem pss_cons (h1 : PS X st t) (h2 : PSs X rest u) : PSs X (st :: rest) (tSeq t u) := by
  intro pins s σ H D I h
  refine wpAny_execs_cons (thn (h1 pins s σ H { D with nx := u D } I h) fun f s1 q => ?_)
  cases f with
  | next =>
    obtain ⟨σ', H', I', q⟩ := q
    exact h2 pins s1 σ' H' D I' q
  | ret v => exact q
  | brk => exact q
  | cont => exact q
theorem pss_one (h1 : PS X st t) : PSs X [st] t := by
  intro pins s σ H D I h
  refine wpAny_execs_cons (thn (h1 pins s σ H D I h) fun f s1 q => ?_)
  cases f with
  | next => exact wpAny_execs_nil q
  | ret v => exact q
  | brk => exact q
  | cont => exact q
theorem Inv.quiet {pins : List (Addr × Obj)} {σ : St} {H : Hp} {s : Shared} (I : Inv X pins σ H s) : interactive X.env = false := by simp [interactive, I.ok.kind]
def tDrop (te : TE) : TS := fun D σ H => te σ H fun _ H1 => D.nx σ H1
theorem ps_expr (he : PE X e te) (hs : swapsWith e none pos.line X.env = pure false := by rfl) : PS X (.Expr e pos) (tDrop te) := by
  intro pins s σ H D I h
  exact wpAny_Expr_any (thn (he pins s σ H _ I h) fun v s1 ⟨x, H1, I1, r1, q1⟩ => ⟨σ, H1, I1, q1⟩) I.quiet hs
def tRet (te : TE) : TS := fun D σ H => te σ H D.rt
theorem ps_ret (he : PE X e te) : PS X (.Return (some e) pos) (tRet te) := by
  intro pins s σ H D I h
  exact wpAny_Return_some (thn (he pins s σ H _ I h) fun v s1 ⟨x, H1, I1, r1, q1⟩ => ⟨x, σ, H1, I1, r1, q1⟩)
def tIfS (c : TT) (t u : TS) : TS := fun D σ H => c σ H fun b H1 => if b = true then t D σ H1 else u D σ H1
theorem ps_if {c : Expr} {a b : List Stmt} {tc : TT} (hc : PT X c tc) (ha : PSs X a t) (hb : PSs X b u) : PS X (.If c a b pos) (tIfS tc t u) := by
  intro pins s σ H D I h
  refine wpAny_If (thn (hc pins s σ H _ I h) fun d s1 ⟨H1, I1, q1⟩ => ?_)
  cases d with
  | true => exact ha pins s1 σ H1 D I1 q1
  | false => exact hb pins s1 σ H1 D I1 q1
def tNever : TS := fun _ _ _ => False
theorem pss_never {sts : List Stmt} : PSs X sts tNever := fun _ _ _ _ _ _ h => h.elim
end
/-! ### targets -/
abbrev TG := V → St → Hp → (St → Hp → Prop) → Prop
abbrev TGs := List V → St → Hp → (St → Hp → Prop) → Prop
def PG (X : Cx) (target : Expr) (t : TG) : Prop :=
  ∀ (pins : List (Addr × Obj)) (s : Shared) (σ : St) (H : Hp) (v : V) (u : Value) (Q : St → Hp → Prop), Inv X pins σ H s → RelV v u → t v σ H Q →
    wpAny (model X.prog X.w) X.A (assign target X.env u) (fun _ s' => ∃ σ' H', Inv X pins σ' H' s' ∧ Q σ' H') X.xe s
def PGs (X : Cx) (ts : List Expr) (t : TGs) : Prop :=
  ∀ (pins : List (Addr × Obj)) (s : Shared) (σ : St) (H : Hp) (vs : List V) (us : List Value) (Q : St → Hp → Prop), Inv X pins σ H s → Vals vs us → t vs σ H Q →
    wpAny (model X.prog X.w) X.A (assignInOrder ((assignEach ts X.env).map (·.2)) us) (fun _ s' => ∃ σ' H', Inv X pins σ' H' s' ∧ Q σ' H') X.xe s
abbrev TSet := V → V → V → Hp → (Hp → Prop) → Prop
def PSet (X : Cx) (t : TSet) : Prop :=
  ∀ (pins : List (Addr × Obj)) (s : Shared) (σ : St) (H : Hp) (o i v : V) (ov iv u : Value) (Q : Hp → Prop), Inv X pins σ H s → RelV o ov → RelV i iv → RelV v u → t o i v H Q →
    wpAny (model X.prog X.w) X.A (setItem ov iv u) (fun _ s' => ∃ H', Inv X pins σ H' s' ∧ Q H') X.xe s
section
variable {X : Cx} {pos : Pos}
def gName (i : Nat) : TG := fun v σ H Q => Q (σ.set i (some v)) H
theorem pg_name {i : Nat} {x : Str} (hN : X.N.Nodup) (hi : X.N[i]? = some x) (hx : Loc X.env.scope x) (hf : X.fn x = true ∨ X.env.scope.names.lookup x = some .local := by first | exact .inl rfl | exact .inr rfl | assumption) : PG X (.Name x pos) (gName i) := by
  intro pins s σ H v u Q I r h
  exact wpAny_assign_Name (store_ok I hN hi hx r (fun s' I' => ⟨_, H, I', h⟩) hf)
def gNil : TGs := fun vs σ H Q => vs = [] ∧ Q σ H
def gCons (t : TG) (u : TGs) : TGs := fun vs σ H Q => ∃ v r, vs = v :: r ∧ t v σ H fun σ' H' => u r σ' H' Q
theorem pgs_nil : PGs X [] gNil := by
  intro pins s σ H vs us Q I r h
  obtain ⟨e, h⟩ := h
  subst e
  cases r
  exact assignInOrder_nil ⟨σ, H, I, h⟩
theorem pgs_cons {e : Expr} {es : List Expr} {t : TG} {u : TGs} (h1 : PG X e t) (h2 : PGs X es u)
    (hs : (assignEach (e :: es) X.env).map (·.2) = assign e X.env :: (assignEach es X.env).map (·.2) := by rfl) : PGs X (e :: es) (gCons t u) := by
  intro pins s σ H vs us Q I r h
  obtain ⟨v, vr, e1, h⟩ := h
  subst e1
  cases r with
  | cons r rr =>
    rw [hs]
    refine assignInOrder_cons (thn (h1 pins s σ H _ _ _ I r h) fun _ s1 ⟨σ1, H1, I1, q1⟩ => ?_)
    exact h2 pins s1 σ1 H1 _ _ Q I1 rr q1
def gTup (K : PySem.W.Frag) (n : Nat) (t : TGs) : TG := fun v σ H Q => ∃ a xs, v = .ref a ∧ SqT K H a xs ∧ xs.length = n ∧ t xs σ H Q
theorem pg_tup {es : List Expr} {k : Nat} {t : TGs} {n : Nat} (hc : X.calm = true) (h : PGs X es t)
    (hn : (assignEach es X.env).length = n := by rfl) (hst : (assignEach es X.env).findIdx? (·.1) = none := by rfl) : PG X (.Tuple es k pos) (gTup X.K n t) := by
  intro pins s σ H v u Q I r hw
  obtain ⟨a, xs, e1, hq, hl, hw⟩ := hw
  subst e1
  cases r
  obtain ⟨its, rv, ht, hz⟩ := I.tuple hq
  refine assign_Tuple_tuple (I.ok.hd hc) ht (by simp [hn, ← hl, rv.length]) hst fun h' hx => ?_
  have I1 : Inv X pins σ H { s with heap := h' } := I.kept (t' := s.toks) fun b o e => hx b o (Nat.ne_of_lt (Heap.lt_size e)) e
  exact h pins _ σ H xs _ Q I1 (by simpa using rv) hw
def gSub (to ti : TE) (t : TSet) : TG := fun v σ H Q => to σ H fun o H1 => ti σ H1 fun i H2 => t o i v H2 fun H3 => Q σ H3
theorem pg_sub {o i : Expr} {to ti : TE} {t : TSet} (ho : PE X o to) (hi : PE X i ti) (hs : PSet X t)
    (ha : ∀ v, assign (.Subscript o i pos) X.env v = (do
      let ov ← holding [v] (eval o X.env)
      let iv ← holding [v, ov] (eval i X.env)
      standAt pos
      holding [v, ov, iv] (setItem ov iv v)
      release [v, ov, iv] []) := by intro _; rfl) : PG X (.Subscript o i pos) (gSub to ti t) := by
  intro pins s σ H v u Q I r h
  rw [ha]
  refine wpAny_bind (wpAny_holding (thn (ho pins s σ H _ I h) fun ov s1 ⟨x, H1, I1, r1, q1⟩ => ?_))
  refine wpAny_bind (wpAny_holding (thn (hi pins s1 σ H1 _ I1 q1) fun iv s2 ⟨y, H2, I2, r2, q2⟩ => ?_))
  refine wpAny_bind (wpAny_standAt (wpAny_bind (wpAny_holding (thn (hs pins s2 σ H2 x y v ov iv u _ I2 r1 r2 r q2) fun _ s3 ⟨H3, I3, q3⟩ => ?_))))
  exact wpAny_release ⟨σ, H3, I3, q3⟩
def tAsg (te : TE) (g : TG) : TS := fun D σ H => te σ H fun x H1 => g x σ H1 D.nx
theorem ps_asg {tg e : Expr} {te : TE} {g : TG} (he : PE X e te) (hg : PG X tg g) (hs : swapsWithSole [tg] e pos.line X.env = pure false := by rfl) (hw : swappedStores [tg] e X.env = pure none := by rfl)
    (h1 : (assignEach [tg] X.env).map (·.2) = [assign tg X.env] := by rfl) : PS X (.Assign [tg] e pos) (tAsg te g) := by
  intro pins s σ H D I h
  refine wpAny_Assign_stores (thn (he pins s σ H _ I h) fun v s1 ⟨x, H1, I1, r1, q1⟩ => ?_) hs hw
  rw [h1]
  exact thn (hg pins s1 σ H1 x v _ I1 r1 q1) fun _ s2 q => q
theorem ps_set {i : Nat} {x : Str} {e : Expr} {te : TE} {pos' : Pos} (hN : X.N.Nodup) (hi : X.N[i]? = some x) (hx : Loc X.env.scope x) (he : PE X e te) (hs : swapsWith e (some (.Name x pos')) pos.line X.env = pure false := by rfl) (hf : X.fn x = true ∨ X.env.scope.names.lookup x = some .local := by first | exact .inl rfl | exact .inr rfl | assumption) :
    PS X (.Assign [.Name x pos'] e pos) (tAsg te (gName i)) := by
  intro pins s σ H D I h
  refine wpAny_Assign_Name (thn (he pins s σ H _ I h) fun v s1 ⟨y, H1, I1, r1, q1⟩ => ?_) hs
  exact store_ok I1 hN hi hx r1 (fun s2 I2 => ⟨_, H1, I2, q1⟩) hf
end
section
variable {X : Cx} {pos : Pos}
end
/-! ### what a loop or a comprehension walks -/
structure It where
  go : Nat → Hp → Prop
  yld : Nat → Hp → V → Hp → Prop
  stop : Nat → Hp → Prop
def FpOk (X : Cx) (pins : List (Addr × Obj)) (H : Hp) (b : Addr) : Prop :=
  H b = none ∧ b ≠ X.env.locals ∧ b ∉ X.fs ∧ (b ∈ X.ex ∨ X.s₀.heap.objs.size ≤ b) ∧ (∀ x c, X.env.cells.lookup x = some c → c ≠ b) ∧ ∀ p ∈ X.pn ++ pins, p.1 ≠ b
theorem Inv.fpOk {X : Cx} {pins : List (Addr × Obj)} {σ : St} {H H' : Hp} {s : Shared} {b : Addr} (I : Inv X pins σ H s) (hb : s.heap.objs.size ≤ b) (hn : H' b = none) : FpOk X pins H' b := by
  refine ⟨hn, Nat.ne_of_gt (Nat.lt_of_lt_of_le I.lt hb), I.nofs hb, .inr (Nat.le_trans I.sz hb), fun x c e z => ?_, fun p hp z => ?_⟩
  · obtain ⟨v, q⟩ := I.cell x c e
    exact absurd (Nat.lt_of_lt_of_le q.lt (by rw [z]; exact hb)) (Nat.lt_irrefl _)
  · exact absurd (Nat.lt_of_lt_of_le (Heap.lt_size (I.pin p hp).1) (by rw [z]; exact hb)) (Nat.lt_irrefl _)
structure Turn (P : Program) (w : World) (K : PySem.W.Frag) (tg : Expr) (J : It) (fp : List Addr) (it : Addr) (tn : Nat → Heap → Prop) : Prop where
  mem : it ∈ fp
  obj : ∀ i h, tn i h → ∀ b ∈ fp, ∃ o, h.get? b = some o ∧ ∀ v, o.data ≠ .cell v
  keep : ∀ i h h', tn i h → (∀ b ∈ fp, ∀ o, h.get? b = some o → h'.get? b = some o) → tn i h'
  item : ∀ (X : Cx), X.prog = P → X.w = w → X.K = K → X.calm = true → ∀ (i : Nat) (pins : List (Addr × Obj)) (s : Shared) (σ : St) (H : Hp) (E : Value → Shared → Prop), Inv X pins σ H s → (∀ b ∈ fp, FpOk X pins H b) → tn i s.heap → J.go i H →
    wpAny (model P w) X.A (pyNext (.ref it)) (fun r s1 => ∃ u, r = some u ∧
      wpAny (model P w) X.A (letOwnedTupleGo tg (.ref it) u) (fun _ s2 => ∃ x H', Inv X pins σ H' s2 ∧ RelV x u ∧ J.yld i H x H' ∧ tn (i + 1) s2.heap ∧ ∀ b ∈ fp, H' b = none) E s1) E s
  done : ∀ (X : Cx), X.prog = P → X.w = w → X.K = K → X.calm = true → ∀ (i : Nat) (pins : List (Addr × Obj)) (s : Shared) (σ : St) (H : Hp) (E : Value → Shared → Prop), Inv X pins σ H s → (∀ b ∈ fp, FpOk X pins H b) → tn i s.heap → J.stop i H →
    wpAny (model P w) X.A (pyNext (.ref it)) (fun r s1 => r = none ∧ Inv X pins σ H s1) E s
  self : ∀ (A : Around) (i : Nat) (s : Shared) (Q : Value → Shared → Prop) (E : Value → Shared → Prop), tn i s.heap → Q (.ref it) s → wpAny (model P w) A (pyIter (.ref it)) Q E s
abbrev TI := St → Hp → (It → Hp → Prop) → Prop
def PIE (X : Cx) (pins : List (Addr × Obj)) (σ : St) (tg : Expr) (R : It → Hp → Prop) (itv : Value) (s2 : Shared) : Prop :=
  ∃ (it : Addr) (fp : List Addr) (tn : Nat → Heap → Prop) (J : It) (H' : Hp), itv = .ref it ∧ Inv X pins σ H' s2 ∧ Turn X.prog X.w X.K tg J fp it tn ∧ tn 0 s2.heap ∧ (∀ b ∈ fp, FpOk X pins H' b) ∧ R J H'
def PI (X : Cx) (tg iter : Expr) (wi : TI) : Prop :=
  ∀ (pins : List (Addr × Obj)) (s : Shared) (σ : St) (H : Hp) (R : It → Hp → Prop), Inv X pins σ H s → wi σ H R →
    wpAny (model X.prog X.w) X.A (eval iter X.env) (fun v s1 => wpAny (model X.prog X.w) X.A (pyIter v) (PIE X pins σ tg R) X.xe s1) X.xe s
theorem go_of {M : Model} {A : Around} {E : Value → Shared → Prop} {s : Shared} {tg : Expr} {it : Addr} {u : Value} {o : Obj} {n : String} {vs : Array Value} {Q : Unit → Shared → Prop} (ho : s.heap.get? it = some o) (hc : o.cls = .type n) (hd : o.data = .fields vs)
    (hn : ["enumerate", "zip", "dict_itemiterator", "dict_reverseitemiterator", "odict_iterator", "itertools.zip_longest", "itertools.pairwise"].contains n = false) (hQ : Q () s) : wpAny M A (letOwnedTupleGo tg (.ref it) u) Q E s := by
  unfold letOwnedTupleGo
  cases tg <;> first
    | exact wpAny_pure hQ
    | (cases u <;> first
        | exact wpAny_pure hQ
        | (refine wpAny_bind (wpAny_load ho ?_)
           rw [hc, hd]
           show wpAny M A (if (["enumerate", "zip", "dict_itemiterator", "dict_reverseitemiterator", "odict_iterator", "itertools.zip_longest", "itertools.pairwise"].contains n && vs[0]? == some (rawInt _)) = true then _ else _) Q E s
           rw [if_neg (by intro h; rw [hn, Bool.false_and] at h; cases h)]
           exact wpAny_pure hQ))
def Itl (K : PySem.W.Frag) (a : Addr) : It :=
  ⟨fun i H => ∃ xs x, SqL K H a xs ∧ xs[i]? = some x, fun i H x H' => H' = H ∧ ∀ xs, SqL K H a xs → xs[i]? = some x, fun i H => ∃ xs, SqL K H a xs ∧ xs.length ≤ i⟩
def Itt (K : PySem.W.Frag) (a : Addr) : It :=
  ⟨fun i H => ∃ xs x, SqT K H a xs ∧ xs[i]? = some x, fun i H x H' => H' = H ∧ ∀ xs, SqT K H a xs → xs[i]? = some x, fun i H => ∃ xs, SqT K H a xs ∧ xs.length ≤ i⟩
def Itr (lo : Int) (n : Nat) : It := ⟨fun i _ => i < n, fun i H x H' => H' = H ∧ x = .int (lo + i), fun i _ => n ≤ i⟩
theorem turn_list {P : Program} {w : World} {K : PySem.W.Frag} {tg : Expr} (a it : Addr) : Turn P w K tg (Itl K a) [it] it (fun i h => h.IsListIter it a i) where
  mem := by simp
  obj := fun i h st b hb => by
    have e : b = it := by simpa using hb
    subst e
    obtain ⟨o, e, c, d⟩ := st
    exact ⟨o, e, fun v z => by rw [d] at z; cases z⟩
  keep := fun i h h' st k => st.at fun o e => k it (by simp) o e
  item := by
    intro X hP hw hK hc i pins s σ H E I hf st hg
    subst hP hw hK
    obtain ⟨xs, x, hq, hx⟩ := hg
    obtain ⟨its, rv, p, hz⟩ := I.list hq
    obtain ⟨u, hu, ru⟩ := rv.get hx
    obtain ⟨f0, f1, f2, f3, f4, f5⟩ := hf it (by simp)
    refine wpAny_pyNext_list_item st p.isList (x := u) (by simpa using hu) fun h' st' sb => ?_
    have I1 : Inv X pins σ H { s with heap := h' } := I.turned (t' := s.toks) (fun b o hb e => (sb.2 b hb).trans e) f0 f1 f3 f4 f5
    obtain ⟨o, e, c, d⟩ := id st'
    exact ⟨u, rfl, go_of (s := { s with heap := h' }) e c d (by decide) ⟨x, H, I1, ru, ⟨rfl, fun ys hy => by rw [I.list_inj hy hq]; exact hx⟩, st', fun b hb => (hf b hb).1⟩⟩
  done := by
    intro X hP hw hK hc i pins s σ H E I hf st hg
    subst hP hw hK
    obtain ⟨xs, hq, hx⟩ := hg
    obtain ⟨its, rv, p, hz⟩ := I.list hq
    obtain ⟨f0, f1, f2, f3, f4, f5⟩ := hf it (by simp)
    have hl := rv.length
    exact wpAny_pyNext_list_end (I.ok.hd hc) st p.isList (by simp; omega) fun h' eb => ⟨rfl, I.turned (t' := s.toks) (fun b o hb e => eb b o hb e) f0 f1 f3 f4 f5⟩
  self := fun _ _ _ _ _ st h => wpAny_pyIter_listiter st h
theorem turn_tuple {P : Program} {w : World} {K : PySem.W.Frag} {tg : Expr} (a it : Addr) : Turn P w K tg (Itt K a) [it] it (fun i h => h.IsTupleIter it a i) where
  mem := by simp
  obj := fun i h st b hb => by
    have e : b = it := by simpa using hb
    subst e
    obtain ⟨o, e, c, d⟩ := st
    exact ⟨o, e, fun v z => by rw [d] at z; cases z⟩
  keep := fun i h h' st k => st.at fun o e => k it (by simp) o e
  item := by
    intro X hP hw hK hc i pins s σ H E I hf st hg
    subst hP hw hK
    obtain ⟨xs, x, hq, hx⟩ := hg
    obtain ⟨its, rv, p, hz⟩ := I.tuple hq
    obtain ⟨u, hu, ru⟩ := rv.get hx
    obtain ⟨f0, f1, f2, f3, f4, f5⟩ := hf it (by simp)
    refine wpAny_pyNext_tuple_item st (show s.heap.IsTuple a its.toArray from p) (x := u) (by simpa using hu) fun h' st' sb => ?_
    have I1 : Inv X pins σ H { s with heap := h' } := I.turned (t' := s.toks) (fun b o hb e => (sb.2 b hb).trans e) f0 f1 f3 f4 f5
    obtain ⟨o, e, c, d⟩ := id st'
    exact ⟨u, rfl, go_of (s := { s with heap := h' }) e c d (by decide) ⟨x, H, I1, ru, ⟨rfl, fun ys hy => by rw [I.tuple_inj hy hq]; exact hx⟩, st', fun b hb => (hf b hb).1⟩⟩
  done := by
    intro X hP hw hK hc i pins s σ H E I hf st hg
    subst hP hw hK
    obtain ⟨xs, hq, hx⟩ := hg
    obtain ⟨its, rv, p, hz⟩ := I.tuple hq
    obtain ⟨f0, f1, f2, f3, f4, f5⟩ := hf it (by simp)
    have hl := rv.length
    exact wpAny_pyNext_tuple_end (I.ok.hd hc) st (show s.heap.IsTuple a its.toArray from p) (by simp; omega) fun h' eb => ⟨rfl, I.turned (t' := s.toks) (fun b o hb e => eb b o hb e) f0 f1 f3 f4 f5⟩
  self := fun _ _ _ _ _ st h => wpAny_pyIter_tupleiter st h
theorem turn_range {P : Program} {w : World} {K : PySem.W.Frag} {tg : Expr} (it : Addr) (lo : Int) (n : Nat) : Turn P w K tg (Itr lo n) [it] it (fun i h => IsRangeIter h it (lo + (i : Nat) * 1) ((n : Int) - (i : Nat)) 1) where
  mem := by simp
  obj := fun i h st b hb => by
    have e : b = it := by simpa using hb
    subst e
    exact ⟨_, st, fun v z => by
      have z' : Data.fields _ = Data.cell v := z
      cases z'⟩
  keep := fun i h h' st k => k it (by simp) _ st
  item := by
    intro X hP hw hK hc i pins s σ H E I hf st hg
    subst hP hw hK
    obtain ⟨f0, f1, f2, f3, f4, f5⟩ := hf it (by simp)
    have W := Walks.range (prog := X.prog) (w := X.w) (I.ok.hd hc) it lo 1 n
    refine TK.wpAny_up (Nat.le_refl s.toks) (W.item i s _ _ hg st fun v h' tk hv st' kk hup => ?_)
    obtain ⟨t, rfl⟩ := hv
    have I1 : Inv X pins σ H { s with heap := h', toks := tk } := I.turned (fun b o hb e => kk b o (by simpa using hb) e) f0 f1 f3 f4 f5
    refine ⟨_, rfl, go_of (s := { s with heap := h', toks := tk }) (n := "range_iterator") st' rfl rfl (by decide) ⟨.int (lo + i), H, I1, ⟨t, ?_⟩, ⟨rfl, rfl⟩, st', fun b hb => (hf b hb).1⟩⟩
    rw [Int.mul_one]
  done := by
    intro X hP hw hK hc i pins s σ H E I hf st hg
    subst hP hw hK
    obtain ⟨f0, f1, f2, f3, f4, f5⟩ := hf it (by simp)
    exact wpAny_pyNext_range_end (I.ok.hd hc) st (by have : n ≤ i := hg; omega) fun h' eb => ⟨rfl, I.turned (t' := s.toks) (fun b o hb e => eb b o hb e) f0 f1 f3 f4 f5⟩
  self := fun _ _ _ _ _ st h => wpAny_pyIter_rangeiter st h
end L2
namespace L2
open PySem PySem.Spec PyProof.Rows
section
variable {X : Cx} {tg : Expr}
def iList (K : PySem.W.Frag) (tl : TE) : TI := fun σ H R => tl σ H fun x H1 => ∃ a, x = .ref a ∧ (∃ xs, SqL K H1 a xs) ∧ R (Itl K a) H1
theorem pi_list {l : Expr} {tl : TE} (hl : PE X l tl) : PI X tg l (iList X.K tl) := by
  intro pins s σ H R I h
  refine thn (hl pins s σ H _ I h) fun v s1 ⟨x, H1, I1, r1, q1⟩ => ?_
  obtain ⟨a, e, ⟨xs, hq⟩, q⟩ := q1
  subst e
  cases r1
  obtain ⟨its, rv, p, hz⟩ := I1.list hq
  refine wpAny_pyIter_list p.isList ?_
  refine ⟨s1.heap.objs.size, [s1.heap.objs.size], _, _, H1, rfl, I1.kept (t' := s1.toks) fun b o e => Heap.get?_push_of_some _ e, turn_list a _, ⟨_, Heap.get?_push_size _ rfl, rfl, rfl⟩, fun b hb => ?_, q⟩
  have e : b = s1.heap.objs.size := by simpa using hb
  subst e
  exact I1.fpOk (Nat.le_refl _) (I1.hok.fresh (Nat.le_refl _))
theorem range_it {pins : List (Addr × Obj)} {σ : St} {H : Hp} {s : Shared} {R : It → Hp → Prop} {E : Value → Shared → Prop} {lo hi : Int} {t u v : Tok} {tk : Nat} (I : Inv X pins σ H s) (h1 : -(2 ^ 62) ≤ lo) (h2 : lo < 2 ^ 62) (h3 : -(2 ^ 62) ≤ hi) (h4 : hi < 2 ^ 62)
    (q : R (Itr lo (hi - lo).toNat) H) (htk : s.toks ≤ tk := by first | exact Nat.le_refl _ | exact Nat.le_succ _ | assumption | omega) : wpAny (model X.prog X.w) X.A (pyIter (.ref s.heap.objs.size)) (PIE X pins σ tg R) E { s with heap := s.heap.push { cls := .type "range", data := .fields #[.int lo t, .int hi u, .int 1 v] }, toks := tk } := by
  refine wpAny_pyIter_range (IsRange.new ..) (small_one h1 h2 h3 h4) ?_
  have I1 : Inv X pins σ H { s with heap := s.heap.push { cls := .type "range", data := .fields #[.int lo t, .int hi u, .int 1 v] }, toks := tk } := I.kept fun b o e => Heap.get?_push_of_some _ e
  refine ⟨(s.heap.push { cls := .type "range", data := .fields #[.int lo t, .int hi u, .int 1 v] }).objs.size, [(s.heap.push { cls := .type "range", data := .fields #[.int lo t, .int hi u, .int 1 v] }).objs.size], _, _, H, rfl,
    I1.kept (t' := tk) fun b o e => Heap.get?_push_of_some _ e, turn_range _ lo (hi - lo).toNat, ?_, fun b hb => ?_, q⟩
  · have e1 : lo + ((0 : Nat) : Int) * 1 = lo := by simp
    have e2 : (((hi - lo).toNat : Nat) : Int) - ((0 : Nat) : Int) = Builtin.Range.rangeSize lo hi 1 := by rw [rangeSize_one]; split <;> omega
    show IsRangeIter _ _ (lo + ((0 : Nat) : Int) * 1) ((((hi - lo).toNat : Nat) : Int) - ((0 : Nat) : Int)) 1
    rw [e1, e2]
    exact Heap.get?_push_size _ rfl
  · have e : b = (s.heap.push { cls := .type "range", data := .fields #[.int lo t, .int hi u, .int 1 v] }).objs.size := by simpa using hb
    subst e
    exact I1.fpOk (Nat.le_refl _) (I1.hok.fresh (Nat.le_refl _))
def iRng1 (ta : TA) : TI := fun σ H R => ta σ H fun vs H1 => ∃ j : Int, vs = [.int j] ∧ -(2 ^ 62) ≤ j ∧ j < 2 ^ 62 ∧ R (Itr 0 j.toNat) H1
theorem pi_range1 {a : Expr} {ta : TA} {p pos : Pos} (hg : Gl X "range") (hm : X.mg "range" = none) (ha : PA X [a] ta) (hs : starEach [a] X.env = [(false, eval a X.env)] := by rfl) : PI X tg (.Call (.Name "range" p) [a] [] pos) (iRng1 ta) := by
  intro pins s σ H R I h
  refine Call_ (ld_blt I hg hm boot_range (PyProof.Rows.callWith_type1 (thn (ha pos pins s σ H _ I h) fun us s1 ⟨vs, H1, I1, r1, q1⟩ => ?_) hs rfl))
  obtain ⟨j, e, q1, q2, q⟩ := q1
  subst e
  cases r1 with
  | cons r rr =>
    cases rr
    obtain ⟨t, rfl⟩ := r
    exact call_range_1 (range_it I1 (by omega) (by omega) q1 q2 (by simpa using q))
/-! ### for -/
def tFor (wi : TI) (g : TG) (tb : TS) : TS := fun D σ H => wi σ H fun J H1 => ∃ W : Nat → Nat → St → Hp → Prop, (∃ m, W 0 m σ H1) ∧ ∀ i m σ H, W i m σ H →
  (J.stop i H ∧ D.nx σ H) ∨ (J.go i H ∧ ∃ N : St → Hp → Prop, (∀ σ' H', N σ' H' → ∃ m', m' < m ∧ W (i + 1) m' σ' H') ∧ ∀ x H', J.yld i H x H' → g x σ H' fun σ2 H2 => tb { D with nx := N, ct := N, bk := D.nx } σ2 H2)
def pinsAt (fp : List Addr) (h : Heap) : List (Addr × Obj) := fp.filterMap fun b => (h.get? b).map fun o => (b, o)
theorem mem_pinsAt {fp : List Addr} {h : Heap} {b : Addr} {o : Obj} (hb : b ∈ fp) (e : h.get? b = some o) : (b, o) ∈ pinsAt fp h := List.mem_filterMap.mpr ⟨b, hb, by rw [e]; rfl⟩
theorem of_pinsAt {fp : List Addr} {h : Heap} {p : Addr × Obj} (hp : p ∈ pinsAt fp h) : p.1 ∈ fp ∧ h.get? p.1 = some p.2 := by
  obtain ⟨b, hb, e⟩ := List.mem_filterMap.mp hp
  cases q : h.get? b with
  | none => rw [q] at e; cases e
  | some o =>
    rw [q] at e
    have e' : (b, o) = p := Option.some.inj e
    subst e'
    exact ⟨hb, q⟩
theorem Inv.pinned {pins : List (Addr × Obj)} {σ : St} {H : Hp} {s : Shared} {fp : List Addr} (I : Inv X pins σ H s) (hf : ∀ b ∈ fp, FpOk X pins H b) (ho : ∀ b ∈ fp, ∃ o, s.heap.get? b = some o ∧ ∀ v, o.data ≠ .cell v) : Inv X (pins ++ pinsAt fp s.heap) σ H s :=
  I.pins_of fun p hp => (List.mem_append.mp hp).elim (fun z => I.pin p (List.mem_append_right _ z)) fun z => by
    obtain ⟨hb, e⟩ := of_pinsAt z
    obtain ⟨f0, f1, f2, _⟩ := hf p.1 hb
    obtain ⟨o, e', d⟩ := ho p.1 hb
    rw [e] at e'; cases e'
    exact ⟨e, f0, f1, f2, d⟩
theorem Inv.unpinned {pins pl : List (Addr × Obj)} {σ : St} {H : Hp} {s : Shared} (I : Inv X (pins ++ pl) σ H s) : Inv X pins σ H s := I.pins_of fun p hp => I.pin p (List.mem_append_right _ (List.mem_append_left _ hp))
theorem ps_for {iter : Expr} {body : List Stmt} {wi : TI} {g : TG} {tb : TS} {pos : Pos} (hp : PassesOwn (model X.prog X.w) X.A X.env X.xe) (hc : X.calm = true) (hi : PI X tg iter wi) (hg : PG X tg g) (hb : PSs X body tb)
    (hs : ∀ x, foldedSetIterable iter X.env x = pure x := by intro _; rfl) : PS X (.For tg iter body [] pos) (tFor wi g tb) := by
  intro pins s σ H D I h
  refine wpAny_For (thn (hi pins s σ H _ I h) fun v s1 h1 => thn h1 fun itv s2 h2 => ?_) hs
  obtain ⟨it, fp, tn, J, H2, e, I2, T, st2, f2, W, ⟨m0, w0⟩, turn⟩ := h2
  subst e
  -- what stays true of the iterator's objects through the loop
  have stat : ∀ {H' : Hp}, (∀ b ∈ fp, H' b = none) → ∀ b ∈ fp, FpOk X pins H' b := fun hn b hb => ⟨hn b hb, (f2 b hb).2⟩
  refine codeAny_forLoop_any (fun n s' => ∃ i σ' H', Inv X pins σ' H' s' ∧ tn i s'.heap ∧ (∀ b ∈ fp, H' b = none) ∧ W i n σ' H') ?_ m0 ⟨0, σ, H2, I2, st2, fun b hb => (f2 b hb).1, w0⟩
  rintro n s3 ⟨i, σ3, H3, I3, st3, fr3, w3⟩
  rcases turn i n σ3 H3 w3 with ⟨stop, qn⟩ | ⟨go, N, hN, step⟩
  · refine wpAny_passesOwn hp (thn (T.done X rfl rfl rfl hc i pins s3 σ3 H3 X.xe I3 (stat fr3) st3 stop) fun r s4 ⟨hr, I4⟩ => ?_)
    subst hr
    exact wpAny_execs_nil ⟨σ3, H3, I4, qn⟩
  · refine wpAny_passesOwn hp (thn (T.item X rfl rfl rfl hc i pins s3 σ3 H3 X.xe I3 (stat fr3) st3 go) fun r s4 ⟨u, hr, h4⟩ => ?_)
    subst hr
    refine wpAny_passesOwn hp (thn h4 fun _ s5 ⟨x, H5, I5, r5, y5, st5, fr5⟩ => ?_)
    have I5' := I5.pinned (stat fr5) (T.obj _ _ st5)
    refine wpAny_passesOwn hp (thn (hg _ s5 σ3 H5 x u _ I5' r5 (step x H5 y5)) fun _ s6 ⟨σ6, H6, I6, q6⟩ => ?_)
    refine wpAny_passesOwn hp (thn (hb _ s6 σ6 H6 _ I6 q6) fun f s7 q7 => ?_)
    have again : ∀ {σ7 : St} {H7 : Hp}, Inv X (pins ++ pinsAt fp s5.heap) σ7 H7 s7 → N σ7 H7 → ∃ m, m < n ∧ ∃ i σ' H', Inv X pins σ' H' s7 ∧ tn i s7.heap ∧ (∀ b ∈ fp, H' b = none) ∧ W i m σ' H' := fun {σ7 H7} I7 n7 => by
      obtain ⟨m', hm, w7⟩ := hN σ7 H7 n7
      refine ⟨m', hm, i + 1, σ7, H7, I7.unpinned, T.keep _ _ _ st5 fun b hb o e => (I7.pin (b, o) (List.mem_append_right _ (List.mem_append_right _ (mem_pinsAt hb e)))).1, fun b hb => ?_, w7⟩
      obtain ⟨o, e, d⟩ := T.obj _ _ st5 b hb
      exact (I7.pin (b, o) (List.mem_append_right _ (List.mem_append_right _ (mem_pinsAt hb e)))).2.1
    cases f with
    | next => obtain ⟨σ7, H7, I7, n7⟩ := q7; exact again I7 n7
    | cont => obtain ⟨σ7, H7, I7, n7⟩ := q7; exact again I7 n7
    | brk => obtain ⟨σ7, H7, I7, q7⟩ := q7; exact ⟨σ7, H7, I7.unpinned, q7⟩
    | ret v => obtain ⟨x7, σ7, H7, I7, r7, q7⟩ := q7; exact ⟨x7, σ7, H7, I7.unpinned, r7, q7⟩
end
/-! ### the forms one uses -/
theorem for_list {K : PySem.W.Frag} {a : Addr} {xs : List V} {g : TG} {tb : TS} {D : Ends} {σ : St} {H : Hp} (Pv : Nat → St → Hp → Prop) (h0 : Pv 0 σ H) (hl : ∀ i σ H, i ≤ xs.length → Pv i σ H → SqL K H a xs)
    (hs : ∀ i x σ H, xs[i]? = some x → Pv i σ H → g x σ H fun σ2 H2 => tb { D with nx := Pv (i + 1), ct := Pv (i + 1), bk := D.nx } σ2 H2) (hd : ∀ σ H, Pv xs.length σ H → D.nx σ H) :
    ∃ W : Nat → Nat → St → Hp → Prop, (∃ m, W 0 m σ H) ∧ ∀ i m σ H, W i m σ H →
      ((Itl K a).stop i H ∧ D.nx σ H) ∨ ((Itl K a).go i H ∧ ∃ N : St → Hp → Prop, (∀ σ' H', N σ' H' → ∃ m', m' < m ∧ W (i + 1) m' σ' H') ∧ ∀ x H', (Itl K a).yld i H x H' → g x σ H' fun σ2 H2 => tb { D with nx := N, ct := N, bk := D.nx } σ2 H2) := by
  refine ⟨fun i m σ H => m = xs.length - i ∧ i ≤ xs.length ∧ Pv i σ H, ⟨xs.length, by simp, Nat.zero_le _, h0⟩, ?_⟩
  rintro i m σ H ⟨rfl, hi, p⟩
  have q := hl i σ H hi p
  by_cases hlt : i < xs.length
  · refine .inr ⟨⟨xs, xs[i], q, by simp [hlt]⟩, Pv (i + 1), fun σ' H' p' => ⟨xs.length - (i + 1), by omega, rfl, hlt, p'⟩, fun x H' y => ?_⟩
    obtain ⟨e, y⟩ := y
    subst e
    exact hs i x σ _ (y xs q) p
  · have e : i = xs.length := by omega
    subst e
    exact .inl ⟨⟨xs, q, Nat.le_refl _⟩, hd σ H p⟩
theorem for_range {lo : Int} {n : Nat} {g : TG} {tb : TS} {D : Ends} {σ : St} {H : Hp} (Pv : Nat → St → Hp → Prop) (h0 : Pv 0 σ H)
    (hs : ∀ i σ H, i < n → Pv i σ H → g (.int (lo + i)) σ H fun σ2 H2 => tb { D with nx := Pv (i + 1), ct := Pv (i + 1), bk := D.nx } σ2 H2) (hd : ∀ σ H, Pv n σ H → D.nx σ H) :
    ∃ W : Nat → Nat → St → Hp → Prop, (∃ m, W 0 m σ H) ∧ ∀ i m σ H, W i m σ H →
      ((Itr lo n).stop i H ∧ D.nx σ H) ∨ ((Itr lo n).go i H ∧ ∃ N : St → Hp → Prop, (∀ σ' H', N σ' H' → ∃ m', m' < m ∧ W (i + 1) m' σ' H') ∧ ∀ x H', (Itr lo n).yld i H x H' → g x σ H' fun σ2 H2 => tb { D with nx := N, ct := N, bk := D.nx } σ2 H2) := by
  refine ⟨fun i m σ H => m = n - i ∧ i ≤ n ∧ Pv i σ H, ⟨n, by simp, Nat.zero_le _, h0⟩, ?_⟩
  rintro i m σ H ⟨rfl, hi, p⟩
  by_cases hlt : i < n
  · refine .inr ⟨hlt, Pv (i + 1), fun σ' H' p' => ⟨n - (i + 1), by omega, rfl, hlt, p'⟩, fun x H' y => ?_⟩
    obtain ⟨e, y⟩ := y
    subst e y
    exact hs i σ _ hlt p
  · have e : i = n := by omega
    subst e
    exact .inl ⟨Nat.le_refl _, hd σ H p⟩
end L2
namespace L2
open PySem PySem.Spec PyProof.Rows
abbrev R2 := V → V → Hp → VK → Prop
def OpR (X : Cx) (f : Value → Value → Sem Value) (r : R2) : Prop :=
  ∀ (pins : List (Addr × Obj)) (s : Shared) (σ : St) (H : Hp) (x y : V) (v u : Value) (Q : VK), Inv X pins σ H s → RelV x v → RelV y u → r x y H Q →
    wpAny (model X.prog X.w) X.A (f v u) (EP X pins σ Q) X.xe s
def UnR (X : Cx) (f : Value → Sem Value) (r : V → Hp → VK → Prop) : Prop :=
  ∀ (pins : List (Addr × Obj)) (s : Shared) (σ : St) (H : Hp) (x : V) (v : Value) (Q : VK), Inv X pins σ H s → RelV x v → r x H Q →
    wpAny (model X.prog X.w) X.A (f v) (EP X pins σ Q) X.xe s
def CallR (X : Cx) (f : Value) (r : List V → Hp → VK → Prop) : Prop :=
  ∀ (pins : List (Addr × Obj)) (s : Shared) (σ : St) (H : Hp) (xs : List V) (us : List Value) (Q : VK), Inv X pins σ H s → Vals xs us → r xs H Q →
    wpAny (model X.prog X.w) X.A (call f us) (EP X pins σ Q) X.xe s
def tOp (r : R2) (ta tb : TE) : TE := fun σ H Q => ta σ H fun x H1 => tb σ H1 fun y H2 => r x y H2 Q
def tUn (r : V → Hp → VK → Prop) (ta : TE) : TE := fun σ H Q => ta σ H fun x H1 => r x H1 Q
def rI (C : Int → Int → Prop) (g : Int → Int → V) : R2 := fun x y H Q => ∃ i j, x = .int i ∧ y = .int j ∧ C i j ∧ Q (g i j) H
def rI0 (g : Int → Int → V) : R2 := fun x y H Q => ∃ i j, x = .int i ∧ y = .int j ∧ Q (g i j) H
def rU (g : Int → V) : V → Hp → VK → Prop := fun x H Q => ∃ i, x = .int i ∧ Q (g i) H
section
variable {X : Cx} {a b c : Expr} {ta tb tc : TE} {pos : Pos}
theorem binT (ha : PE X a ta) (hb : PE X b tb) {pins : List (Addr × Obj)} {s : Shared} {σ : St} {H : Hp} {R : V → V → Hp → Prop} (I : Inv X pins σ H s)
    (h : ta σ H fun x H1 => tb σ H1 fun y H2 => R x y H2) {Q : Value → Shared → Prop} {f : Value → Value → Sem Value}
    (hf : ∀ v u s2 x y H2, Inv X pins σ H2 s2 → RelV x v → RelV y u → R x y H2 → wpAny (model X.prog X.w) X.A (f v u) Q X.xe s2) :
    wpAny (model X.prog X.w) X.A (eval a X.env) (fun v s₁ => wpAny (model X.prog X.w) X.A (eval b X.env) (fun u s₂ => wpAny (model X.prog X.w) X.A (f v u) Q X.xe s₂) X.xe s₁) X.xe s := by
  refine thn (ha pins s σ H _ I h) fun v s1 ⟨x, H1, I1, r1, q1⟩ => ?_
  refine thn (hb pins s1 σ H1 _ I1 q1) fun u s2 ⟨y, H2, I2, r2, q2⟩ => ?_
  exact hf v u s2 x y H2 I2 r1 r2 q2
theorem pe_op {op : Operator} {r : R2} (ho : OpR X (binaryOp op) r) (ha : PE X a ta) (hb : PE X b tb) : PE X (.BinOp a op b pos) (tOp r ta tb) := by
  intro pins s σ H Q I h
  exact wpAny_BinOp (binT ha hb I h fun v u s2 x y H2 I2 rx ry q => ho pins s2 σ H2 x y v u Q I2 rx ry q)
theorem pe_un {op : UnaryOp} {r : V → Hp → VK → Prop} (ho : UnR X (unaryOp op) r) (ha : PE X a ta) : PE X (.UnaryOp op a pos) (tUn r ta) := by
  intro pins s σ H Q I h
  exact UnaryOp_ (thn (ha pins s σ H _ I h) fun v s1 ⟨x, H1, I1, r1, q1⟩ => ho pins s1 σ H1 x v Q I1 r1 q1)
/-! ### ints -/
theorem opI {f : Value → Value → Sem Value} {C : Int → Int → Prop} {g : Int → Int → Int}
    (rule : ∀ (i j : Int) (t u : Tok) (s : Shared) (Q : Value → Shared → Prop) (E : Value → Shared → Prop), C i j → Q (.int (g i j) s.toks) { s with toks := s.toks + 1 } → wpAny (model X.prog X.w) X.A (f (.int i t) (.int j u)) Q E s) :
    OpR X f (rI C fun i j => .int (g i j)) := by
  intro pins s σ H x y v u Q I rx ry h
  obtain ⟨i, j, rfl, rfl, hc, q⟩ := h
  obtain ⟨t, rfl⟩ := rx
  obtain ⟨t', rfl⟩ := ry
  exact rule i j t t' s _ _ hc ⟨.int (g i j), H, I.tok _, ⟨_, rfl⟩, q⟩
theorem opI0 {f : Value → Value → Sem Value} {g : Int → Int → Int}
    (rule : ∀ (i j : Int) (t u : Tok) (s : Shared) (Q : Value → Shared → Prop) (E : Value → Shared → Prop), Q (.int (g i j) s.toks) { s with toks := s.toks + 1 } → wpAny (model X.prog X.w) X.A (f (.int i t) (.int j u)) Q E s) :
    OpR X f (rI0 fun i j => .int (g i j)) := by
  intro pins s σ H x y v u Q I rx ry h
  obtain ⟨i, j, rfl, rfl, q⟩ := h
  obtain ⟨t, rfl⟩ := rx
  obtain ⟨t', rfl⟩ := ry
  exact rule i j t t' s _ _ ⟨.int (g i j), H, I.tok _, ⟨_, rfl⟩, q⟩
theorem opB0 {f : Value → Value → Sem Value} {g : Int → Int → Bool}
    (rule : ∀ (i j : Int) (t u : Tok) (s : Shared) (Q : Value → Shared → Prop) (E : Value → Shared → Prop), Q (.bool (g i j)) s → wpAny (model X.prog X.w) X.A (f (.int i t) (.int j u)) Q E s) :
    OpR X f (rI0 fun i j => .bl (g i j)) := by
  intro pins s σ H x y v u Q I rx ry h
  obtain ⟨i, j, rfl, rfl, q⟩ := h
  obtain ⟨t, rfl⟩ := rx
  obtain ⟨t', rfl⟩ := ry
  exact rule i j t t' s _ _ ⟨.bl (g i j), H, I, rfl, q⟩
def CDiv (i j : Int) : Prop := 0 < j ∧ j < 1073741824
def CMul (i j : Int) : Prop := (-(2 ^ 64) < i ∧ i < 2 ^ 64) ∨ (-(2 ^ 64) < j ∧ j < 2 ^ 64)
theorem CMul.ok {i j : Int} (h : CMul i j) : IntMulOk i j := by
  rcases h with ⟨h1, h2⟩ | ⟨h1, h2⟩
  · exact .of_left (intBits_le_64 h1 h2)
  · exact .of_right (intBits_le_64 h1 h2)
theorem op_add : OpR X (binaryOp .Add) (rI0 fun i j => .int (i + j)) := opI0 fun _ _ _ _ _ _ _ q => add_int q
theorem op_mul : OpR X (binaryOp .Mult) (rI CMul fun i j => .int (i * j)) := opI fun _ _ _ _ _ _ _ hc q => mul_int q hc.ok
theorem op_fdiv : OpR X (binaryOp .FloorDiv) (rI CDiv fun i j => .int (i / j)) := opI fun i j _ _ _ _ _ hc q => by
  have h1 : (0 : Int) < j := hc.1
  have h2 : j < 1073741824 := hc.2
  exact floordiv_int (by omega) (by rw [Int.fdiv_eq_ediv_of_nonneg i (by omega)]; exact q) (.inl (PyProof.noPylong_small (by omega)))
theorem op_mod : OpR X (binaryOp .Mod) (rI (fun _ j => 0 < j) fun i j => .int (i % j)) := opI fun i j _ _ _ _ _ hc q => by
  have h1 : (0 : Int) < j := hc
  exact mod_int' (by omega) (by rw [Int.fmod_eq_emod_of_nonneg i (by omega)]; exact q)
theorem unI {f : Value → Sem Value} {g : Int → Int}
    (rule : ∀ (i : Int) (t : Tok) (s : Shared) (Q : Value → Shared → Prop) (E : Value → Shared → Prop), Q (.int (g i) s.toks) { s with toks := s.toks + 1 } → wpAny (model X.prog X.w) X.A (f (.int i t)) Q E s) :
    UnR X f (rU fun i => .int (g i)) := by
  intro pins s σ H x v Q I rx h
  obtain ⟨i, rfl, q⟩ := h
  obtain ⟨t, rfl⟩ := rx
  exact rule i t s _ _ ⟨.int (g i), H, I.tok _, ⟨_, rfl⟩, q⟩
theorem un_neg : UnR X (unaryOp .USub) (rU fun i => .int (-i)) := unI fun _ _ _ _ _ q => neg_int q
end
/-! ### comparisons -/
def scal : V → V → Bool
  | .non, .non => true | .non, .int _ => true | .int _, .non => true | .non, .bl _ => true | .bl _, .non => true | .non, .str _ => true | .str _, .non => true
  | .int _, .int _ => true | .bl _, .bl _ => true | .str _, .str _ => true | .byt _, .byt _ => true
  | .int _, .str _ => true | .str _, .int _ => true | .bl _, .str _ => true | .str _, .bl _ => true
  | _, _ => false
def rEq : R2 := fun x y H Q => scal x y = true ∧ Q (.bl (decide (x = y))) H
def rNe : R2 := fun x y H Q => scal x y = true ∧ Q (.bl (!decide (x = y))) H
theorem dec_int {i j : Int} : decide (V.int i = V.int j) = (i == j) := by
  rw [Bool.eq_iff_iff]
  simp
theorem dec_bl {i j : Bool} : decide (V.bl i = V.bl j) = (i == j) := by
  rw [Bool.eq_iff_iff]
  simp
theorem dec_str {i j : Str} : decide (V.str i = V.str j) = (i == j) := by
  rw [Bool.eq_iff_iff]
  simp
theorem dec_byt {i j : Array UInt8} : decide (V.byt i = V.byt j) = (i.toList == j.toList) := by
  rw [Bool.eq_iff_iff]
  cases i
  cases j
  simp
section
variable {X : Cx} {a b c : Expr} {ta tb tc : TE} {pos : Pos}
theorem fin_bl {pins : List (Addr × Obj)} {σ : St} {H : Hp} {s : Shared} {Q : VK} {k k' : Bool} (I : Inv X pins σ H s) (q : Q (.bl k) H) (e : k = k') : EP X pins σ Q (.bool k') s := by
  subst e
  exact ⟨.bl k, H, I, rfl, q⟩
theorem op_eq : OpR X (compareOp .Eq) rEq := by
  intro pins s σ H x y v u Q I rx ry h
  obtain ⟨hs, q⟩ := h
  cases x with
  | non =>
    cases rx
    cases y with
    | non => cases ry; exact PySem.EqNone.eq_none_none (fin_bl I q (by simp))
    | bl j => cases ry; exact PySem.EqNone.eq_none_bool (fin_bl I q (by simp))
    | int j => obtain ⟨t', rfl⟩ := ry; exact PySem.EqNone.eq_none_int (fin_bl I q (by simp))
    | str j => obtain ⟨t', rfl⟩ := ry; exact PySem.EqNone.eq_none_str (fin_bl I q (by simp))
    | _ => exact absurd (show false = true from hs) Bool.false_ne_true
  | bl i =>
    cases rx
    cases y with
    | non => cases ry; exact PySem.EqNone.eq_bool_none (fin_bl I q (by simp))
    | bl j => cases ry; exact eq_bool (fin_bl I q dec_bl)
    | str j => obtain ⟨t', rfl⟩ := ry; exact PySem.EqMixed.eq_bool_str (fin_bl I q (by simp))
    | _ => exact absurd (show false = true from hs) Bool.false_ne_true
  | int i =>
    obtain ⟨t, rfl⟩ := rx
    cases y with
    | non => cases ry; exact PySem.EqNone.eq_int_none (fin_bl I q (by simp))
    | int j => obtain ⟨t', rfl⟩ := ry; exact eq_int (fin_bl I q dec_int)
    | str j => obtain ⟨t', rfl⟩ := ry; exact PySem.EqMixed.eq_int_str (fin_bl I q (by simp))
    | _ => exact absurd (show false = true from hs) Bool.false_ne_true
  | str i =>
    obtain ⟨t, rfl⟩ := rx
    cases y with
    | non => cases ry; exact PySem.EqNone.eq_str_none (fin_bl I q (by simp))
    | bl j => cases ry; exact PySem.EqMixed.eq_str_bool (fin_bl I q (by simp))
    | int j => obtain ⟨t', rfl⟩ := ry; exact PySem.EqMixed.eq_str_int (fin_bl I q (by simp))
    | str j => obtain ⟨t', rfl⟩ := ry; exact eq_str (fin_bl I q dec_str)
    | _ => exact absurd (show false = true from hs) Bool.false_ne_true
  | byt i =>
    obtain ⟨t, rfl⟩ := rx
    cases y with
    | byt j => obtain ⟨t', rfl⟩ := ry; exact PySem.W.eq_bytes (fin_bl I q dec_byt)
    | _ => exact absurd (show false = true from hs) Bool.false_ne_true
  | _ => cases y <;> exact absurd (show false = true from hs) Bool.false_ne_true
theorem op_ne : OpR X (compareOp .NotEq) rNe := by
  intro pins s σ H x y v u Q I rx ry h
  obtain ⟨hs, q⟩ := h
  cases x with
  | non =>
    cases rx
    cases y with
    | non => cases ry; exact PySem.EqNone.ne_none_none (fin_bl I q (by simp))
    | bl j => cases ry; exact PySem.EqNone.ne_none_bool (fin_bl I q (by simp))
    | int j => obtain ⟨t', rfl⟩ := ry; exact PySem.EqNone.ne_none_int (fin_bl I q (by simp))
    | str j => obtain ⟨t', rfl⟩ := ry; exact PySem.EqNone.ne_none_str (fin_bl I q (by simp))
    | _ => exact absurd (show false = true from hs) Bool.false_ne_true
  | bl i =>
    cases rx
    cases y with
    | non => cases ry; exact PySem.EqNone.ne_bool_none (fin_bl I q (by simp))
    | bl j => cases ry; exact ne_bool (fin_bl I q (congrArg not dec_bl))
    | str j => obtain ⟨t', rfl⟩ := ry; exact PySem.EqMixed.ne_bool_str (fin_bl I q (by simp))
    | _ => exact absurd (show false = true from hs) Bool.false_ne_true
  | int i =>
    obtain ⟨t, rfl⟩ := rx
    cases y with
    | non => cases ry; exact PySem.EqNone.ne_int_none (fin_bl I q (by simp))
    | int j => obtain ⟨t', rfl⟩ := ry; exact ne_int (fin_bl I q (congrArg not dec_int))
    | str j => obtain ⟨t', rfl⟩ := ry; exact PySem.EqMixed.ne_int_str (fin_bl I q (by simp))
    | _ => exact absurd (show false = true from hs) Bool.false_ne_true
  | str i =>
    obtain ⟨t, rfl⟩ := rx
    cases y with
    | non => cases ry; exact PySem.EqNone.ne_str_none (fin_bl I q (by simp))
    | bl j => cases ry; exact PySem.EqMixed.ne_str_bool (fin_bl I q (by simp))
    | int j => obtain ⟨t', rfl⟩ := ry; exact PySem.EqMixed.ne_str_int (fin_bl I q (by simp))
    | str j => obtain ⟨t', rfl⟩ := ry; exact ne_str (fin_bl I q (congrArg not dec_str))
    | _ => exact absurd (show false = true from hs) Bool.false_ne_true
  | byt i =>
    obtain ⟨t, rfl⟩ := rx
    cases y with
    | byt j => obtain ⟨t', rfl⟩ := ry; exact PySem.W.ne_bytes (fin_bl I q (congrArg not dec_byt))
    | _ => exact absurd (show false = true from hs) Bool.false_ne_true
  | _ => cases y <;> exact absurd (show false = true from hs) Bool.false_ne_true
theorem op_lt : OpR X (compareOp .Lt) (rI0 fun i j => .bl (decide (i < j))) := opB0 fun _ _ _ _ _ _ _ q => lt_int q
theorem op_le : OpR X (compareOp .LtE) (rI0 fun i j => .bl (decide (i ≤ j))) := opB0 fun _ _ _ _ _ _ _ q => le_int q
theorem op_gt : OpR X (compareOp .Gt) (rI0 fun i j => .bl (decide (j < i))) := opB0 fun _ _ _ _ _ _ _ q => gt_int q
theorem nomark (b : Expr) {op : CmpOp} (h : op ≠ .In := by decide) (h2 : op ≠ .NotIn := by decide) : behindInMarks op b = false := by
  have e1 : (op == CmpOp.In) = false := by cases op <;> first | rfl | exact absurd rfl h
  have e2 : (op == CmpOp.NotIn) = false := by cases op <;> first | rfl | exact absurd rfl h2
  cases b <;> simp [behindInMarks, e1, e2]
theorem pe_cmpR {op : CmpOp} {r : R2} (ho : OpR X (compareOp op) r) (ha : PE X a ta) (hb : PE X b tb) (hm : behindInMarks op b = false) : PE X (.Compare a [op] [b] pos) (tOp r ta tb) := by
  intro pins s σ H Q I h
  exact wpAny_Compare1 (binT ha hb I h fun v u s2 x y H2 I2 rx ry q => ho pins s2 σ H2 x y v u Q I2 rx ry q) hm
def tTest (t : TE) : TT := fun σ H Q => t σ H fun x H' => ∃ k, x = .bl k ∧ Q k H'
theorem pt_cmpR {op : CmpOp} {r : R2} (ho : OpR X (compareOp op) r) (ha : PE X a ta) (hb : PE X b tb) (hm : behindInMarks op b = false) : PT X (.Compare a [op] [b] pos) (tTest (tOp r ta tb)) := by
  intro pins s σ H Q I h
  refine wpAny_isTrue_Compare1 (thn (ha pins s σ H _ I h) fun v s1 ⟨x, H1, I1, r1, q1⟩ => thn (hb pins s1 σ H1 _ I1 q1) fun u s2 ⟨y, H2, I2, r2, q2⟩ =>
    thn (ho pins s2 σ H2 x y v u _ I2 r1 r2 q2) fun c s3 ⟨z, H3, I3, r3, k, e, q3⟩ => ?_) hm
  subst e
  cases r3
  exact wpAny_truthy_bool ⟨H3, I3, q3⟩
def tChain (r r' : R2) (ta tb tc : TE) : TE := fun σ H Q => ta σ H fun x H1 => tb σ H1 fun y H2 => r x y H2 fun z H3 => ∃ k, z = .bl k ∧
  (if k = true then tc σ H3 fun w' H4 => r' y w' H4 Q else Q (.bl false) H3)
theorem pe_chain {op op' : CmpOp} {r r' : R2} (ho : OpR X (compareOp op) r) (ho' : OpR X (compareOp op') r') (ha : PE X a ta) (hb : PE X b tb) (hc : PE X c tc)
    (hm : lastMarks [op, op'] [b, c] = false := by with_unfolding_all rfl) : PE X (.Compare a [op, op'] [b, c] pos) (tChain r r' ta tb tc) := by
  intro pins s σ H Q I h
  refine Compare_chain (thn (ha pins s σ H _ I h) fun v s1 ⟨x, H1, I1, r1, q1⟩ => chain_link (thn (hb pins s1 σ H1 _ I1 q1) fun u s2 ⟨y, H2, I2, r2, q2⟩ =>
    thn (ho pins s2 σ H2 x y v u _ I2 r1 r2 q2) fun d s3 ⟨z, H3, I3, r3, k, e, q3⟩ => ?_)) hm
  subst e
  cases r3
  refine wpAny_truthy_bool ?_
  cases k with
  | false => exact ite_ff ⟨.bl false, H3, I3, rfl, q3⟩
  | true => exact ite_tt (chain_last (thn (hc pins s3 σ H3 _ I3 q3) fun w' s4 ⟨z', H4, I4, r4, q4⟩ => ho' pins s4 σ H4 y z' u w' Q I4 r2 r4 q4))
theorem pt_chain {op op' : CmpOp} {r r' : R2} (ho : OpR X (compareOp op) r) (ho' : OpR X (compareOp op') r') (ha : PE X a ta) (hb : PE X b tb) (hc : PE X c tc)
    (hm : lastMarks [op, op'] [b, c] = false := by with_unfolding_all rfl) : PT X (.Compare a [op, op'] [b, c] pos) (tTest (tChain r r' ta tb tc)) := by
  intro pins s σ H Q I h
  refine isTrue_chain (thn (ha pins s σ H _ I h) fun v s1 ⟨x, H1, I1, r1, q1⟩ => test_link (thn (hb pins s1 σ H1 _ I1 q1) fun u s2 ⟨y, H2, I2, r2, q2⟩ =>
    thn (ho pins s2 σ H2 x y v u _ I2 r1 r2 q2) fun d s3 ⟨z, H3, I3, r3, k, e, q3⟩ => ?_)) hm
  subst e
  cases r3
  refine wpAny_truthy_bool ?_
  cases k with
  | false =>
    obtain ⟨k', e', q'⟩ := q3
    cases e'
    exact ite_ff ⟨H3, I3, q'⟩
  | true =>
    refine ite_tt (test_last (thn (hc pins s3 σ H3 _ I3 q3) fun w' s4 ⟨z', H4, I4, r4, q4⟩ => thn (ho' pins s4 σ H4 y z' u w' _ I4 r2 r4 q4) fun d' s5 ⟨z2, H5, I5, r5, k2, e2, q5⟩ => ?_))
    subst e2
    cases r5
    exact wpAny_truthy_bool ⟨H5, I5, q5⟩
theorem line63 : (sizeLine : Nat) < 2 ^ 63 := by rw [sizeLine_eq]; decide
theorem op_add_str : OpR X (binaryOp .Add) (fun x y H Q => ∃ i j, x = .str i ∧ y = .str j ∧ i.length + j.length ≤ sizeLine ∧ Q (.str (i ++ j)) H) := by
  intro pins s σ H x y v u Q I rx ry h
  obtain ⟨i, j, rfl, rfl, hz, q⟩ := h
  obtain ⟨t, rfl⟩ := rx
  obtain ⟨t', rfl⟩ := ry
  exact TK.wpAny_up (Nat.le_refl _) (add_str (fun t' tk hup => ⟨.str (i ++ j), H, I.tok _, ⟨_, rfl⟩, q⟩) hz)
/-! ### scalar builtins, by CallR -/
theorem vals1 {x : V} {us : List Value} (r : Vals [x] us) : ∃ u, us = [u] ∧ RelV x u := by
  cases r with
  | cons r1 r2 => cases r2; exact ⟨_, rfl, r1⟩
theorem vals2 {x y : V} {us : List Value} (r : Vals [x, y] us) : ∃ u w', us = [u, w'] ∧ RelV x u ∧ RelV y w' := by
  cases r with
  | cons r1 r2 =>
    cases r2 with
    | cons r3 r4 => cases r4; exact ⟨_, _, rfl, r1, r3⟩
theorem call_max2 (hc : X.calm = true) : CallR X (.builtin "max") (fun xs H Q => ∃ i j, xs = [.int i, .int j] ∧ Q (.int (if j > i then j else i)) H) := by
  intro pins s σ H xs us Q I r h
  obtain ⟨i, j, rfl, q⟩ := h
  obtain ⟨u, w', rfl, ⟨t, rfl⟩, ⟨t', rfl⟩⟩ := vals2 r
  refine TK.wpAny_up (Nat.le_refl _) (max_two_ints (I.ok.hd hc) fun h' tk k hup => ⟨_, H, I.kept k, ?_, q⟩)
  by_cases hj : j > i
  · rw [if_pos hj, if_pos hj]; exact ⟨_, rfl⟩
  · rw [if_neg hj, if_neg hj]; exact ⟨_, rfl⟩
theorem call_min2 (hc : X.calm = true) : CallR X (.builtin "min") (fun xs H Q => ∃ i j, xs = [.int i, .int j] ∧ Q (.int (if j < i then j else i)) H) := by
  intro pins s σ H xs us Q I r h
  obtain ⟨i, j, rfl, q⟩ := h
  obtain ⟨u, w', rfl, ⟨t, rfl⟩, ⟨t', rfl⟩⟩ := vals2 r
  refine TK.wpAny_up (Nat.le_refl _) (min_two_ints (I.ok.hd hc) fun h' tk k hup => ⟨_, H, I.kept k, ?_, q⟩)
  by_cases hj : j < i
  · rw [if_pos hj, if_pos hj]; exact ⟨_, rfl⟩
  · rw [if_neg hj, if_neg hj]; exact ⟨_, rfl⟩
theorem call_ord : CallR X (.builtin "ord") (fun xs H Q => ∃ x, xs = [.str x] ∧ x.length = 1 ∧ Q (.int (x.cps.getD 0 0 : Nat)) H) := by
  intro pins s σ H xs us Q I r h
  obtain ⟨x, rfl, hz, q⟩ := h
  obtain ⟨u, rfl, t, rfl⟩ := vals1 r
  exact ord_of_one hz ⟨.int _, H, I.tok _, ⟨_, rfl⟩, q⟩
def LenV (K : PySem.W.Frag) (x : V) (H : Hp) (n : Nat) : Prop :=
  match x with
  | .str y => y.length ≤ sizeLine ∧ n = y.length
  | .byt y => y.size ≤ sizeLine ∧ n = y.size
  | .ref p => (∃ xs, SqL K H p xs ∧ n = xs.length) ∨ ∃ xs, SqT K H p xs ∧ n = xs.length
  | _ => False
theorem call_len : CallR X (.builtin "len") (fun xs H Q => ∃ x n, xs = [x] ∧ LenV X.K x H n ∧ Q (.int n) H) := by
  intro pins s σ H xs us Q I r h
  obtain ⟨x, n, rfl, e, q⟩ := h
  obtain ⟨u, rfl, rx⟩ := vals1 r
  have hl := line63
  have hs : sizeLine = 16777216 := sizeLine_eq
  cases x with
  | str y =>
    obtain ⟨t, rfl⟩ := rx
    obtain ⟨hy, e'⟩ : y.length ≤ sizeLine ∧ n = y.length := e
    subst e'
    exact len_str (by omega) ⟨.int _, H, I.tok _, ⟨_, rfl⟩, q⟩
  | byt y =>
    obtain ⟨t, rfl⟩ := rx
    obtain ⟨hy, e'⟩ : y.size ≤ sizeLine ∧ n = y.size := e
    subst e'
    exact PySem.W.len_bytes (by omega) ⟨.int _, H, I.tok _, ⟨_, rfl⟩, q⟩
  | ref p =>
    cases rx
    have e' : (∃ xs, SqL X.K H p xs ∧ n = xs.length) ∨ ∃ xs, SqT X.K H p xs ∧ n = xs.length := e
    rcases e' with ⟨xs, hx, e'⟩ | ⟨xs, hx, e'⟩
    · subst e'
      obtain ⟨its, r', pl, hz⟩ := I.list hx
      have hlen := r'.length
      exact Calls.call_len_list pl.isList (by simp only [List.size_toArray]; omega) ⟨.int xs.length, H, I.tok _, ⟨_, by simp only [List.size_toArray]; rw [hlen]⟩, q⟩
    · subst e'
      obtain ⟨its, r', pl, hz⟩ := I.tuple hx
      have hlen := r'.length
      exact len_tuple pl (by simp only [List.size_toArray]; omega) ⟨.int xs.length, H, I.tok _, ⟨_, by simp only [List.size_toArray]; rw [hlen]⟩, q⟩
  | _ => exact (show False from e).elim
end
end L2
namespace L2
open PySem PySem.Spec PyProof.Rows
/-! ### an instance, its attributes a map -/
structure ObjM (h : Heap) (x dx C : Addr) (mA : Str → Option Value) : Prop where
  obj : h.get? x = some (PySem.W.instObj C dx)
  ns : h.Ns1 dx mA
  ne : dx ≠ x
theorem lookIn_ns {h : Heap} {dx : Addr} {mA : Str → Option Value} (n : h.Ns1 dx mA) : ∃ od, h.get? dx = some od ∧ ∀ name, PySem.W.lookIn name od = some (mA name) := by
  obtain ⟨o, es, ep, ho, hd, hk, _, hm⟩ := n
  refine ⟨o, ho, fun name => ?_⟩
  have e := hm name
  unfold nsFind findBy at e
  rw [← Array.find?_toList] at e
  unfold PySem.W.lookIn
  rw [hd]
  dsimp only
  split
  · rename_i y q
    rw [q] at e
    exact congrArg some e
  · rename_i q
    rw [q] at e
    have a : es.toList.any (·.refKey) = false := by
      rw [List.any_eq_false]
      intro y hy
      obtain ⟨z, t, hkey⟩ := hk y (Array.mem_toList_iff.mp hy)
      simp [DictEntry.refKey, hkey]
    have a' : ¬ es.toList.any (·.refKey) = true := by rw [a]; exact Bool.false_ne_true
    rw [if_neg a']
    exact congrArg some e
theorem ObjM.look {h : Heap} {x dx C : Addr} {mA : Str → Option Value} (I : ObjM h x dx C mA) : ∃ od, PySem.W.InstAt h x (PySem.W.instObj C dx) C (some od) ∧ ∀ name, PySem.W.lookIn name od = some (mA name) :=
  let ⟨od, ho, hl⟩ := lookIn_ns I.ns
  ⟨od, ⟨I.obj, rfl, rfl, ho⟩, hl⟩
section
variable {prog : Program} {w : World} {A : Around} {E : Value → Shared → Prop} {s : Shared} {K : PySem.W.Frag} {x dx C f : Addr} {mA : Str → Option Value} {name : Str} {v : Value}
theorem get_map {expr : Bool} {Q : Value → Shared → Prop} (X : K.In s.heap) (I : ObjM s.heap x dx C mA) (hg : PySem.W.plainGet K C name = true) (hh : PySem.W.hasDictIn K C = true)
    (ha : PySem.W.findIn K (.ref C) name = some none) (hv : mA name = some v) (hv' : PySem.W.handedIn v = true) (h : Q v { s with toks := s.toks + 1 }) :
    wpAny (model prog w) A (getAttr (.ref x) name expr) Q E s := by
  obtain ⟨od, J, hl⟩ := I.look
  exact PySem.W.get_value X J (PySem.W.plainGet_of hg).1 (PySem.W.findObj_own hh ha rfl (by rw [hl, hv])) hv' h
theorem set_map {ns : List Str} {Q : Unit → Shared → Prop} (X : K.In s.heap) (I : ObjM s.heap x dx C mA)
    (hs : PySem.W.findIn K (.ref C) "__setattr__" = some (some (.builtin "object.__setattr__"))) (hp : PySem.W.plainOver K C = true) (ht : PySem.W.takerIn K C name = some none) (hh : PySem.W.hasDictIn K C = true)
    (hw : PySem.Within mA ns) (hsz : ns.length ≤ sizeLine)
    (h : ∀ h', ObjM h' x dx C (fun y => if y = name then some v else mA y) → Heap.SameBut dx s.heap h' → Q () { s with heap := h', toks := s.toks + 2 }) :
    wpAny (model prog w) A (setAttr (.ref x) name v) Q E s := by
  obtain ⟨od, J, hl⟩ := I.look
  refine PySem.W.set_plain X J hs (PySem.W.osa_open (s := { s with toks := s.toks + 1 }) (r := none) X J hp ht fun b => ?_)
  obtain ⟨cd, hc, hd'⟩ := PySem.W.any_some hh
  have hx : s.heap.get? x = some ⟨.ref C, some dx, .plain, #[]⟩ := I.obj
  refine wpAny_bind (wpAny_pure (wpAny_bind (wpAny_bind (wpAny_loadPart hx (wpAny_bind (PySem.W.Looks.here (s := { s with toks := s.toks + 1 }) (PySem.W.looks_clsIn X hc) ?_))))))
  rw [hd']
  refine wpAny_pure (a := some dx) (wpAny_bind (wpAny_pure (wpAny_bind ?_)))
  refine wpAny_nsSet1 (s := { s with toks := s.toks + 1 }) I.ns fun h' hn2 hs2 => ?_
  obtain ⟨oD, esD, epD, hoD, hdD, hcD⟩ := hn2.count (PySem.Within.cons name v hw)
  refine wpAny_bind (wpAny_lookBehind hoD (by rw [hdD]; exact pastItsLine_dict (Nat.le_trans hcD (by rw [List.length_cons]; omega))) ?_)
  exact wpAny_pure (h _ ⟨(hs2.2 _ (Ne.symm I.ne)).trans I.obj, hn2, I.ne⟩ hs2)
theorem make_map {R : Result → Shared → Prop} {vs : List Value} {kw : List (Str × Value)} (X : K.In s.heap) (hm : PySem.W.makesIn K C = true)
    (hi : PySem.W.findIn K (.ref C) "__init__" = some (some (.ref f))) (hf : PySem.W.typeIn K (.ref f) = some (.type "function"))
    (h : codeAny (model prog w) (A.under (.builtin "type.__call__" ⟨.ref C :: vs, kw⟩)) (.call (.ref f) ⟨.ref (s.heap.objs.size + 1) :: vs, kw⟩) (PySem.W.InitBack (s.heap.objs.size + 1) R)
      { s with heap := (s.heap.push PySem.W.emptyDict).push (PySem.W.instObj C s.heap.objs.size) }) :
    codeAny (model prog w) A (.call (.ref C) ⟨vs, kw⟩) R s := by
  obtain ⟨hh, g, d, t, os⟩ := s
  exact PySem.W.make_core (PySem.W.makes_of X hm) (PySem.W.looks_findIn X hi) (fun self => PySem.W.bind_fn X self hf) (.inl rfl) h
end
/-! ### the attributes as a list of pairs -/
def putF (f : Str) (v : V) : List (Str × V) → List (Str × V)
  | [] => [(f, v)]
  | (g, x) :: r => if g = f then (g, v) :: r else (g, x) :: putF f v r
theorem lookup_putF (f g : Str) (v : V) : ∀ fs : List (Str × V), (putF f v fs).lookup g = if g = f then some v else fs.lookup g
  | [] => by
    show List.lookup g [(f, v)] = _
    by_cases h : g = f
    · have hb : (g == f) = true := beq_iff_eq.mpr h
      simp only [List.lookup, hb, if_pos h]
    · have hb : (g == f) = false := beq_eq_false_iff_ne.mpr h
      simp only [List.lookup, hb, if_neg h]
  | (k, x) :: r => by
    have ih := lookup_putF f g v r
    rw [show putF f v ((k, x) :: r) = (if k = f then (k, v) :: r else (k, x) :: putF f v r) from rfl]
    by_cases hk : k = f
    · rw [if_pos hk]
      by_cases h : g = k
      · have hb : (g == k) = true := beq_iff_eq.mpr h
        simp only [List.lookup, hb, if_pos (h.trans hk)]
      · have hb : (g == k) = false := beq_eq_false_iff_ne.mpr h
        simp only [List.lookup, hb, if_neg (fun e : g = f => h (e.trans hk.symm))]
    · rw [if_neg hk]
      by_cases h : g = k
      · have hb : (g == k) = true := beq_iff_eq.mpr h
        simp only [List.lookup, hb, if_neg (fun e : g = f => hk (h.symm.trans e))]
      · have hb : (g == k) = false := beq_eq_false_iff_ne.mpr h
        simp only [List.lookup, hb]
        exact ih
theorem keys_putF (f : Str) (v : V) : ∀ fs : List (Str × V), f ∈ (putF f v fs).map (·.1) ∧ ∀ g, g ∈ fs.map (·.1) → g ∈ (putF f v fs).map (·.1)
  | [] => ⟨by simp [putF], fun g h => by simp at h⟩
  | (k, x) :: r => by
    obtain ⟨i1, i2⟩ := keys_putF f v r
    rw [show putF f v ((k, x) :: r) = (if k = f then (k, v) :: r else (k, x) :: putF f v r) from rfl]
    by_cases hk : k = f
    · rw [if_pos hk]
      subst hk
      exact ⟨by simp, fun g h => by simpa using h⟩
    · rw [if_neg hk]
      refine ⟨?_, fun g h => ?_⟩
      · rw [List.map_cons]
        exact List.mem_cons_of_mem _ i1
      · rw [List.map_cons] at h ⊢
        rcases List.mem_cons.mp h with e | e
        · exact List.mem_cons.mpr (.inl e)
        · exact List.mem_cons_of_mem _ (i2 g e)
theorem length_putF (f : Str) (v : V) : ∀ fs : List (Str × V), (putF f v fs).length ≤ fs.length + 1
  | [] => by simp [putF]
  | (k, x) :: r => by
    have ih := length_putF f v r
    rw [show putF f v ((k, x) :: r) = (if k = f then (k, v) :: r else (k, x) :: putF f v r) from rfl]
    by_cases hk : k = f
    · rw [if_pos hk, List.length_cons, List.length_cons]; omega
    · rw [if_neg hk, List.length_cons, List.length_cons]; omega
theorem RelO.some_of {v : V} {o : Option Value} (r : RelO (some v) o) : ∃ u, o = some u ∧ RelV v u := by
  cases o with
  | none => exact (show False from r).elim
  | some u => exact ⟨u, rfl, r⟩
theorem handed_of {v : V} {u : Value} (r : RelV v u) : PySem.W.handedIn u = true := by
  cases v with
  | non => cases (show u = Value.none from r); rfl
  | bl b => cases (show u = Value.bool b from r); rfl
  | int i => obtain ⟨t, e⟩ := (show ∃ t, u = Value.int i t from r); cases e; rfl
  | str x => obtain ⟨t, e⟩ := (show ∃ t, u = Value.str x t from r); cases e; rfl
  | byt b => obtain ⟨t, e⟩ := (show ∃ t, u = Value.bytes b t from r); cases e; rfl
  | flt b => obtain ⟨t, e⟩ := (show ∃ t, u = Value.float b t from r); cases e; rfl
  | ref a => cases (show u = Value.ref a from r); rfl
  | ty n => cases (show u = Value.type n from r); rfl
section
variable {P : Program} {w : World} {H H' : Hp} {h h' : Heap} {a C dx : Addr} {fs fs' : List (Str × V)}
theorem ins_get (hok : HOk P w H h) (e : H a = some (.ins C dx fs)) : ∃ mA, ObjM h a dx C mA ∧ (∀ f, RelO (fs.lookup f) (mA f)) ∧ PySem.Within mA (fs.map (·.1)) ∧ fs.length ≤ 1000 ∧ H dx = some (.own a) := by
  obtain ⟨d, z, ne, ob, mA, n, r, q⟩ := (show ObjOk P w H h a (.ins C dx fs) from hok a _ e)
  exact ⟨mA, ⟨ob, n, ne⟩, r, q, z, d⟩
end
/-! ### what of the text a class must have -/
structure Cls (K : PySem.W.Frag) (C : Addr) : Prop where
  pg : PySem.W.plainGet K C Str.empty = true
  hd : PySem.W.hasDictIn K C = true
  po : PySem.W.plainOver K C = true
  sa : PySem.W.findIn K (.ref C) "__setattr__" = some (some (.builtin "object.__setattr__"))
theorem Cls.get {K : PySem.W.Frag} {C : Addr} (c : Cls K C) (f : Str) : PySem.W.plainGet K C f = true := c.pg
def NoAttr (K : PySem.W.Frag) (C : Addr) (f : Str) : Prop := PySem.W.findIn K (.ref C) f = some none
theorem NoAttr.taker {K : PySem.W.Frag} {C : Addr} {f : Str} (n : NoAttr K C f) : PySem.W.takerIn K C f = some none := by
  unfold PySem.W.takerIn
  rw [show PySem.W.findIn K (.ref C) f = some none from n]
  rfl
section
variable {X : Cx} {pins : List (Addr × Obj)} {σ : St} {H : Hp} {s : Shared} {a C dx : Addr} {fs : List (Str × V)} {f : Str} {v : V} {A : Around} {E : Value → Shared → Prop}
theorem getattr_ok {b : Bool} {Q : Value → Shared → Prop} (I : Inv X pins σ H s) (e : H a = some (.ins C dx fs)) (c : Cls X.K C) (n : NoAttr X.K C f) (l : fs.lookup f = some v)
    (h : ∀ u s', Inv X pins σ H s' → RelV v u → Q u s') : wpAny (model X.prog X.w) A (getAttr (.ref a) f b) Q E s := by
  obtain ⟨mA, O, r, _, _, _⟩ := ins_get I.hok e
  obtain ⟨u, hu, ru⟩ := RelO.some_of (v := v) (o := mA f) (by rw [← l]; exact r f)
  exact get_map I.kIn O (c.get f) c.hd n hu (handed_of ru) (h u _ (I.tok _) ru)
theorem setattr_ok {y : V} {u : Value} {Q : Unit → Shared → Prop} (I : Inv X pins σ H s) (e : H a = some (.ins C dx fs)) (c : Cls X.K C) (n : NoAttr X.K C f) (hl : fs.length < 1000) (ry : RelV y u)
    (h : ∀ s', Inv X pins σ (upd H a (.ins C dx (putF f y fs))) s' → Q () s') : wpAny (model X.prog X.w) A (setAttr (.ref a) f u) Q E s := by
  obtain ⟨mA, O, r, wi, _, ho⟩ := ins_get I.hok e
  have hz : (fs.map (·.1)).length ≤ sizeLine := by rw [List.length_map, sizeLine_eq]; omega
  refine set_map I.kIn O c.sa c.po n.taker c.hd wi hz fun h' O' sb => h _ ?_
  have hd : ∃ o, h'.get? dx = some o := let ⟨o, _, _, e', _⟩ := O'.ns; ⟨o, e'⟩
  refine I.write (x := a) (e := dx) (by rw [e]; exact True.intro) (.inr ho) (fun b q hb z => (sb.2 b hb).trans z) hd ?_
  refine ⟨by rw [upd_ne O.ne]; exact ho, ?_, O.ne, O'.obj, _, O'.ns, fun g => ?_, fun g hg => ?_⟩
  · have := length_putF f y fs; omega
  · show RelO ((putF f y fs).lookup g) (if g = f then some u else mA g)
    rw [lookup_putF]
    by_cases q : g = f
    · rw [if_pos q, if_pos q]; exact ry
    · rw [if_neg q, if_neg q]; exact r g
  · by_cases q : g = f
    · rw [q]; exact (keys_putF f y fs).1
    · refine (keys_putF f y fs).2 g (wi g fun z => hg ?_)
      show (if g = f then some u else mA g) = none
      rw [if_neg q]; exact z
theorem Inv.made (I : Inv X pins σ H s) : Inv X pins σ (upd (upd H s.heap.objs.size (.own (s.heap.objs.size + 1))) (s.heap.objs.size + 1) (.ins C s.heap.objs.size []))
    { s with heap := (s.heap.push PySem.W.emptyDict).push (PySem.W.instObj C s.heap.objs.size) } := by
  have e1 : (s.heap.push PySem.W.emptyDict).get? s.heap.objs.size = some PySem.W.emptyDict := Heap.get?_push_size s.heap rfl
  have e2 : ((s.heap.push PySem.W.emptyDict).push (PySem.W.instObj C s.heap.objs.size)).get? (s.heap.objs.size + 1) = some (PySem.W.instObj C s.heap.objs.size) := by
    have := Heap.get?_push_size (s.heap.push PySem.W.emptyDict) (o := PySem.W.instObj C s.heap.objs.size) rfl
    rwa [Heap.size_push] at this
  have e3 : (s.heap.push PySem.W.emptyDict).Ns s.heap.objs.size (fun _ => none) := ⟨PySem.W.emptyDict, #[], _, e1, rfl, (fun e he => absurd he (by simp)), fun _ => rfl⟩
  have I1 := I.laid (a := s.heap.objs.size) (o := .own (s.heap.objs.size + 1)) (h' := s.heap.push PySem.W.emptyDict) (t' := s.toks) (fun b u q => Heap.get?_push_of_some _ q) (Nat.le_refl _) ⟨_, e1⟩
  refine I1.laid (a := s.heap.objs.size + 1) (o := .ins C s.heap.objs.size []) (t' := s.toks) (fun b u q => Heap.get?_push_of_some _ q) (Nat.le_of_eq (Heap.size_push _ _)) ?_
  have ne : s.heap.objs.size ≠ s.heap.objs.size + 1 := Nat.ne_of_lt (Nat.lt_succ_self _)
  refine ⟨by rw [upd_ne ne, upd_same], Nat.zero_le _, ne, e2, fun _ => none, (Heap.Ns1.of_empty e3).at fun o q => Heap.get?_push_of_some _ q, fun _ => True.intro, fun y hy => absurd rfl hy⟩
theorem attr_of {prog : Program} {w : World} {env : Env} {e : Expr} {f : Str} {pos : Pos} {s : Shared} {Q : Value → Shared → Prop} (hb : attributeBase e f env (eval e env) = eval e env)
    (h : wpAny (model prog w) A (eval e env) (fun o s₁ => wpAny (model prog w) A (getAttr o f true) Q E s₁) E s) : wpAny (model prog w) A (eval (.Attribute e f pos) env) Q E s :=
  Attribute_any_ h (by rw [arm_eval_Attribute, hb])
end
/-! ### readings and rules -/
def tFld (K : PySem.W.Frag) (ta : TE) (f : Str) : TE := fun σ H Q => ta σ H fun x H1 => ∃ a C dx fs v, x = .ref a ∧ H1 a = some (.ins C dx fs) ∧ Cls K C ∧ NoAttr K C f ∧ fs.lookup f = some v ∧ Q v H1
def sFld (K : PySem.W.Frag) (ta tv : TE) (f : Str) : TS := fun D σ H => tv σ H fun y H1 => ta σ H1 fun x H2 => ∃ a C dx fs, x = .ref a ∧ H2 a = some (.ins C dx fs) ∧ Cls K C ∧ NoAttr K C f ∧ fs.length < 1000 ∧
  D.nx σ (upd H2 a (.ins C dx (putF f y fs)))
section
variable {X : Cx} {o e value : Expr} {f : Str} {pos pos' tpos : Pos} {ta tv : TE}
theorem pe_fld (he : PE X e ta) (hb : attributeBase e f X.env (eval e X.env) = eval e X.env) : PE X (.Attribute e f pos) (tFld X.K ta f) := by
  intro pins s σ H Q I h
  refine attr_of hb (thn (he pins s σ H _ I h) fun u s1 ⟨x, H1, I1, rx, a, C, dx, fs, v, ex, ea, c, n, l, q⟩ => ?_)
  subst ex
  obtain rfl : u = Value.ref a := rx
  exact getattr_ok I1 ea c n l fun u' s2 I2 ru => ⟨v, H1, I2, ru, q⟩
theorem ps_fld (ha : PE X o ta) (hv : PE X value tv) (hs : swapsWith value (some (.Attribute o f pos')) pos.line X.env = pure false) : PS X (.Assign [.Attribute o f pos'] value pos) (sFld X.K ta tv f) := by
  intro pins s σ H D I h
  refine plainObj_wpAny_Assign_Attribute (thn (hv pins s σ H _ I h) fun u s1 ⟨y, H1, I1, ry, q⟩ => thn (ha pins s1 σ H1 _ I1 q) fun ov s2 ⟨x, H2, I2, rx, a, C, dx, fs, ex, ea, c, n, l, q2⟩ => ?_) hs
  subst ex
  obtain rfl : ov = Value.ref a := rx
  exact setattr_ok I2 ea c n l ry fun s3 I3 => ⟨σ, _, I3, q2⟩
end
section
variable {X : Cx} {pins : List (Addr × Obj)} {σ : St} {H : Hp} {s : Shared} {A : Around} {E : Value → Shared → Prop} {Q : Value → Shared → Prop} {c : Value} {b : Bool}
inductive TyOf (K : PySem.W.Frag) (H : Hp) : V → Value → Prop where
  | non : TyOf K H .non (.type "NoneType")
  | bl (x : Bool) : TyOf K H (.bl x) (.type "bool")
  | int (i : Int) : TyOf K H (.int i) (.type "int")
  | str (x : Str) : TyOf K H (.str x) (.type "str")
  | flt (x : UInt64) : TyOf K H (.flt x) (.type "float")
  | lst {a : Addr} {xs : List V} (e : H a = some (.lst xs)) : TyOf K H (.ref a) (.type "list")
  | frz {a : Addr} {o : Obj} {xs : List V} (e : H a = some (.frz o (.lst xs))) : TyOf K H (.ref a) (.type "list")
  | tup {a : Addr} {xs : List V} (e : H a = some (.tup xs)) : TyOf K H (.ref a) (.type "tuple")
  | dK {a : Addr} {kvs : List (Key × V)} (e : H a = some (.dK kvs)) : TyOf K H (.ref a) (.type "dict")
  | dT {a : Addr} {kvs : List (List Key × V)} (e : H a = some (.dT kvs)) : TyOf K H (.ref a) (.type "dict")
  | ins {a C dx : Addr} {fs : List (Str × V)} (e : H a = some (.ins C dx fs)) (cl : Cls K C) (ha : PySem.W.findIn K (.ref C) "__class__" = some (some (.builtin "object.__class__")))
      (hn : PySem.W.specialIn K (.builtin "object.__class__") "__get__" = some (some (.builtin "getset_descriptor.__get__"))) (htk : PySem.W.takesIn K (.builtin "object.__class__") = some true)
      (hm : PySem.W.mroIn K C (.type "object") = some true) : TyOf K H (.ref a) (.ref C)
theorem isinst_ok {x : V} {u t : Value} (I : Inv X pins σ H s) (rx : RelV x u) (ty : TyOf X.K H x t) (e : PySem.W.kitOne X.K t c = some b) (h : ∀ tk, Q (.bool b) { s with toks := tk }) :
    wpAny (model X.prog X.w) A (call (.builtin "isinstance") [u, c]) Q E s := by
  cases ty with
  | non => cases (show u = Value.none from rx); exact PySem.W.kia_one PySem.W.kitx_none I.kIn True.intro e (fun z => nomatch z) h
  | bl y => cases (show u = Value.bool y from rx); exact PySem.W.kia_one PySem.W.kitx_bool I.kIn True.intro e (fun z => nomatch z) h
  | int i => obtain ⟨t, q⟩ := (show ∃ t, u = Value.int i t from rx); cases q; exact PySem.W.kia_one PySem.W.kitx_int I.kIn True.intro e (fun z => nomatch z) h
  | str y => obtain ⟨t, q⟩ := (show ∃ t, u = Value.str y t from rx); cases q; exact PySem.W.kia_one PySem.W.kitx_str I.kIn True.intro e (fun z => nomatch z) h
  | flt y => obtain ⟨t, q⟩ := (show ∃ t, u = Value.float y t from rx); cases q; exact PySem.W.kia_one PySem.W.kitx_float I.kIn True.intro e (fun z => nomatch z) h
  | @lst a xs ea =>
    cases (show u = Value.ref a from rx)
    obtain ⟨_, _, n, _, h1⟩ := (show ObjOk X.prog X.w H s.heap a (.lst xs) from I.hok a _ ea)
    exact PySem.W.kia_one PySem.W.kitx_list I.kIn ⟨_, h1, rfl⟩ e (fun z => nomatch z) h
  | @frz a ob xs ea =>
    cases (show u = Value.ref a from rx)
    obtain ⟨_, _, _, n, _, h1⟩ := (show ObjOk X.prog X.w H s.heap a (.frz ob (.lst xs)) from I.hok a _ ea)
    exact PySem.W.kia_one PySem.W.kitx_list I.kIn ⟨_, h1, rfl⟩ e (fun z => nomatch z) h
  | @tup a xs ea =>
    cases (show u = Value.ref a from rx)
    obtain ⟨_, _, _, p⟩ := (show ObjOk X.prog X.w H s.heap a (.tup xs) from I.hok a _ ea)
    obtain ⟨o, h1, h2, _⟩ := p
    exact PySem.W.kia_one PySem.W.kitx_tuple I.kIn ⟨o, h1, h2⟩ e (fun z => nomatch z) h
  | @dK a kvs ea =>
    cases (show u = Value.ref a from rx)
    obtain ⟨_, _, vs, _, p⟩ := (show ObjOk X.prog X.w H s.heap a (.dK kvs) from I.hok a _ ea)
    obtain ⟨o, es, ep, h1, h2, _⟩ := p
    exact PySem.W.kia_one PySem.W.kitx_dict I.kIn ⟨o, h1, h2.1⟩ e (fun z => nomatch z) h
  | @dT a kvs ea =>
    cases (show u = Value.ref a from rx)
    obtain ⟨_, _, xs, _, o, es, ep, h1, h2, _⟩ := (show ObjOk X.prog X.w H s.heap a (.dT kvs) from I.hok a _ ea)
    exact PySem.W.kia_one PySem.W.kitx_dict I.kIn ⟨o, h1, h2.1⟩ e (fun z => nomatch z) h
  | @ins a C dx fs ea cl ha hn htk hm =>
    cases (show u = Value.ref a from rx)
    obtain ⟨mA, O, _⟩ := ins_get I.hok ea
    obtain ⟨od, J, _⟩ := O.look
    exact PySem.W.kia_one (PySem.W.kitx_own (cl.get _) cl.hd ha hn htk hm) I.kIn J e (fun z => nomatch z) h
end
end L2
namespace L2
open PySem PySem.Spec PyProof.Rows
/-! ### room -/
structure Room (k : Nat) (A : Around) : Prop where
  hd : A.handled = none
  dp : A.depth + 3 * k + 5 < recursionLimit
  un : A.units + 16 * k + 200 < cLine
theorem Room.mono {j k : Nat} {A : Around} (r : Room k A) (h : j ≤ k) : Room j A := ⟨r.hd, by have := r.dp; omega, by have := r.un; omega⟩
theorem Room.deeper {k : Nat} {A : Around} (r : Room (k + 1) A) (env : Env) : Room k (A.deeper env) :=
  ⟨r.hd, by have := r.dp; show A.depth + 1 + 3 * k + 5 < _; omega, by have := r.un; show A.units + 3 + 16 * k + 200 < _; omega⟩
theorem make_depth {A : Around} {C : Addr} {us : List Value} {kw : List (Str × Value)} : (A.under (.builtin "type.__call__" ⟨.ref C :: us, kw⟩)).depth = A.depth + 1 := by
  first | rfl | simp [Around.under, Code.weight, Code.isCreation, Code.isGuard, Code.isCaller, Code.frames, Code.isFrame, guardIds]
theorem make_units {A : Around} {C : Addr} {us : List Value} {kw : List (Str × Value)} : (A.under (.builtin "type.__call__" ⟨.ref C :: us, kw⟩)).units = A.units + 1 := by
  first | rfl | simp [Around.under, Code.cUnits, Code.frames, Code.isFrame]
theorem Room.make {k : Nat} {A : Around} (r : Room (k + 1) A) (C : Addr) (us : List Value) (kw : List (Str × Value)) : Room k (A.under (.builtin "type.__call__" ⟨.ref C :: us, kw⟩)) :=
  ⟨r.hd, by have := r.dp; rw [make_depth]; omega, by have := r.un; rw [make_units]; omega⟩
theorem Room.depth {k : Nat} {A : Around} (r : Room k A) : A.depth < recursionLimit := by have := r.dp; omega
/-! ### argument lists and displays -/
def tNil : TA := fun _ H Q => Q [] H
def tCons (ta : TE) (tr : TA) : TA := fun σ H Q => ta σ H fun x H1 => tr σ H1 fun xs H2 => Q (x :: xs) H2
section
variable {X : Cx} {e : Expr} {es : List Expr} {te : TE} {t : TA} {pos : Pos}
theorem pa_nil : PA X [] tNil := fun _ _ _ _ H Q I h => Calls.spliced_nil ⟨[], H, I, .nil, h⟩
theorem pa_cons (ha : PE X e te) (hr : PA X es t) (hs : starEach (e :: es) X.env = (false, eval e X.env) :: starEach es X.env := by rfl) : PA X (e :: es) (tCons te t) := by
  intro pos pins s σ H Q I h
  rw [hs]
  show wpAny _ _ (spliced ((false, eval e X.env) :: backTo pos (starEach es X.env))) _ _ s
  refine Calls.spliced_cons (thn (ha pins s σ H _ I h) fun u s1 ⟨x, H1, I1, r1, q1⟩ => ?_)
  exact thn (hr pos pins s1 σ H1 _ I1 q1) fun us s2 ⟨xs, H2, I2, r2, q2⟩ => ⟨x :: xs, H2, I2, .cons r1 r2, q2⟩
def tTup (t : TA) : TE := fun σ H Q => t σ H fun xs H1 => xs.length ≤ sizeLine ∧ ∀ p, H1 p = none → Q (.ref p) (upd H1 p (.tup xs))
def tLst (t : TA) : TE := fun σ H Q => t σ H fun xs H1 => xs.length ≤ sizeLine ∧ ∀ p, H1 p = none → Q (.ref p) (upd H1 p (.lst xs))
theorem pe_tup {x1} (h : PA X es t) : PE X (.Tuple es x1 pos) (tTup t) := by
  intro pins s σ H Q I hq
  refine wpAny_Tuple_spliced (thn (h pos pins s σ H _ I hq) fun us s1 ⟨xs, H1, I1, r, z, q⟩ => ⟨by rw [← r.length]; exact z, ?_⟩)
  have hf : H1 s1.heap.objs.size = none := I1.hok.fresh (Nat.le_refl _)
  refine ⟨.ref s1.heap.objs.size, upd H1 s1.heap.objs.size (.tup xs), I1.laid (t' := s1.toks) (fun b u e => Heap.get?_push_of_some _ e) (Nat.le_refl _) ?_, rfl, q _ hf⟩
  exact ⟨z, us, r, ⟨_, Heap.get?_push_size _ rfl, rfl, _, rfl⟩⟩
theorem pe_lst (h : PA X es t) : PE X (.List es pos) (tLst t) := by
  intro pins s σ H Q I hq
  refine wpAny_List_spliced (thn (h pos pins s σ H _ I hq) fun us s1 ⟨xs, H1, I1, r, z, q⟩ => ⟨by rw [← r.length]; exact z, ?_⟩)
  have hf : H1 s1.heap.objs.size = none := I1.hok.fresh (Nat.le_refl _)
  refine ⟨.ref s1.heap.objs.size, upd H1 s1.heap.objs.size (.lst xs), I1.laid (t' := s1.toks) (fun b u e => Heap.get?_push_of_some _ e) (Nat.le_refl _) ?_, rfl, q _ hf⟩
  exact ⟨z, us, 0, r, Heap.get?_push_size _ rfl⟩
end
/-! ### what a def promises -/
abbrev Sp := List V → Hp → VK → XK → Prop
abbrev CXT := List Env → Hp → Shared → XK → Value → Shared → Prop
structure Env0 (P : Program) (w : World) (K : PySem.W.Frag) (mg : Str → Option Value) (base : Heap) (A : Around) (outer : List Env) (s : Shared) (H : Hp) : Prop where
  frames : A.frames = some outer
  mod : Mod K mg base
  bs : ∀ b o, base.get? b = some o → s.heap.get? b = some o ∧ H b = none
  bsz : base.objs.size ≤ s.heap.objs.size
  funs : s.heap.FunFrames base outer
  frf : ∀ b ∈ frs outer, H b = none
  hok : HOk P w H s.heap
  bare : AllBare s.gens
  tk : TokB mg s.toks
def CE (outer : List Env) (P : Program) (w : World) (H : Hp) (s : Shared) (Q : VK) (u : Value) (s' : Shared) : Prop :=
  ∃ v H', s'.os = s.os ∧ AllBare s'.gens ∧ Un (frs outer) [] H H' s.heap s'.heap ∧ HOk P w H' s'.heap ∧ RelV v u ∧ s.toks ≤ s'.toks ∧ Q v H'
def CR (CX : CXT) (outer : List Env) (P : Program) (w : World) (H : Hp) (s : Shared) (Q : VK) (E : XK) (r : Result) (s' : Shared) : Prop :=
  match r with
  | .ok (.ret u) => CE outer P w H s Q u s'
  | .ok _ => False
  | .error e => CX outer H s E e s'
structure FnOk (P : Program) (w : World) (K : PySem.W.Frag) (mg : Str → Option Value) (base : Heap) (CX : CXT) (k : Nat) (f : Addr) (fd : FuncData) (ps : List Str) (sp : Sp) : Prop where
  len : ∀ vs H Q E, sp vs H Q E → vs.length = ps.length
  run : ∀ (A : Around) (outer : List Env) (s : Shared) (H : Hp) (args : Args) (us : List Value) (vs : List V) (Q : VK) (E : XK), Room k A → Env0 P w K mg base A outer s H → BindsTo s fd args (ps.zip us) → Vals vs us → sp vs H Q E →
    codeAny (model P w) A (.call (.ref f) args) (CR CX outer P w H s Q E) s
theorem Env0.make {P : Program} {w : World} {K : PySem.W.Frag} {mg : Str → Option Value} {base : Heap} {A : Around} {outer : List Env} {s : Shared} {H : Hp} (e : Env0 P w K mg base A outer s H) (C : Addr) (us : List Value) (kw : List (Str × Value)) :
    Env0 P w K mg base (A.under (.builtin "type.__call__" ⟨.ref C :: us, kw⟩)) outer s H := ⟨by first | exact e.frames | (simpa [Around.under, Code.envs, Code.isFrame, pushEnvs] using e.frames), e.mod, e.bs, e.bsz, e.funs, e.frf, e.hok, e.bare, e.tk⟩
section
variable {X : Cx} {pins : List (Addr × Obj)} {σ : St} {H : Hp} {s s' : Shared}
theorem Inv.env0 (I : Inv X pins σ H s) : Env0 X.prog X.w X.K X.mg X.base X.A X.stack s H :=
  ⟨I.ok.frames, I.ok.mod, I.bs, Nat.le_trans I.ok.bsz I.sz, I.stack, I.stkFree, I.hok, I.bare, I.tk⟩
theorem Inv.after {Q : VK} {u : Value} (I : Inv X pins σ H s) (h : CE X.stack X.prog X.w H s Q u s') : EP X pins σ Q u s' := by
  obtain ⟨v, H', os, bare, un, hok, r, tt, q⟩ := h
  obtain ⟨hh, g, d, t, os'⟩ := s'
  obtain rfl : os' = s.os := os
  exact ⟨v, H', I.call (h' := hh) (g' := g) (d' := d) (t' := t) (ch := []) un hok bare (fun b z => absurd z (by simp)) (Nat.le_trans I.up tt), r, q⟩
end
/-! ### calls -/
def tCall (sp : Sp) (dvs : List V) (E : XK) (t : TA) : TE := fun σ H Q => t σ H fun vs H1 => sp (vs ++ dvs) H1 Q E
def tMake (C : Addr) (sp : Sp) (dvs : List V) (E : XK) (t : TA) : TE := fun σ H Q => t σ H fun vs H1 => ∀ x dx, H1 x = none → H1 dx = none → dx ≠ x →
  sp (.ref x :: (vs ++ dvs)) (upd (upd H1 dx (.own x)) x (.ins C dx [])) (fun v H2 => v = .non ∧ Q (.ref x) H2) E
def Binds (K : PySem.W.Frag) (fd : FuncData) (ps : List Str) (ds : List Value) : Prop :=
  ∀ (s : Shared) (us : List Value), K.In s.heap → (us ++ ds).length = ps.length → BindsTo s fd ⟨us, []⟩ (ps.zip (us ++ ds))
theorem Binds.all {K : PySem.W.Frag} {fd : FuncData} {ps : List Str} (h : ∀ us : List Value, us.length = ps.length → bindArgs fd ⟨us, []⟩ = pure (ps.zip us)) : Binds K fd ps [] := fun s us _ hl => by
  rw [List.append_nil] at hl ⊢
  exact .of_eq (h us hl)
def Passes (CX : CXT) (X : Cx) (E : XK) : Prop := ∀ (pins : List (Addr × Obj)) (σ : St) (H : Hp) (s : Shared) (e : Value) (s' : Shared), Inv X pins σ H s → CX X.stack H s E e s' → X.xe e s'
section
variable {X : Cx} {CX : CXT} {k : Nat} {f C : Addr} {fd : FuncData} {ps : List Str} {sp : Sp} {dvs : List V} {ds : List Value} {E : XK} {x m : Str} {p pos apos : Pos} {e o : Expr} {es : List Expr} {ta : TE} {t : TA}
theorem run_fn {pins : List (Addr × Obj)} {σ : St} {H : Hp} {s : Shared} {Q : VK} {us : List Value} {vs : List V} (F : FnOk X.prog X.w X.K X.mg X.base CX k f fd ps sp) (hr : Room k X.A) (hb : Binds X.K fd ps ds) (hd : Vals dvs ds) (hx : Passes CX X E)
    (I : Inv X pins σ H s) (r : Vals vs us) (h : sp (vs ++ dvs) H Q E) : wpAny (model X.prog X.w) X.A (call (.ref f) us) (EP X pins σ Q) X.xe s := by
  have r2 : Vals (vs ++ dvs) (us ++ ds) := r.append hd
  have hl : (us ++ ds).length = ps.length := by rw [← r2.length]; exact F.len _ _ _ _ h
  refine wpAny_call (codeAny_mono (F.run X.A X.stack s H ⟨us, []⟩ (us ++ ds) (vs ++ dvs) Q E hr I.env0 (hb s us I.kIn hl) r2 h) fun r s' hq => ?_)
  cases r with
  | error e => exact hx pins σ H s e s' I hq
  | ok fl =>
    cases fl with
    | ret u => exact I.after hq
    | next => exact False.elim hq
    | brk => exact False.elim hq
    | cont => exact False.elim hq
theorem pe_call (F : FnOk X.prog X.w X.K X.mg X.base CX k f fd ps sp) (hr : Room k X.A) (hg : Gl X x) (hm : X.mg x = some (.ref f)) (hk : PySem.W.keepIn X.K (.ref f) = true) (hb : Binds X.K fd ps ds) (hd : Vals dvs ds) (hx : Passes CX X E)
    (ha : PA X (e :: es) t) (hdb : (x == ("__debug__" : Str)) = false := by decide) (he : starEach (e :: es) X.env = (false, eval e X.env) :: starEach es X.env := by rfl) (hpl : (backTo pos (starEach es X.env)).any (·.1) = false := by rfl) :
    PE X (.Call (.Name x p) (e :: es) [] pos) (tCall sp dvs E t) := by
  intro pins s σ H Q I h
  refine wpAny_Call_Name_kw (ld_glob I hg hm ?_ hdb)
  refine PySem.W.callWith_K (h₀ := X.base) I.ok.mod.kin hk (thn (ha pos pins s σ H _ I h) fun us s1 ⟨vs, H1, I1, r, q⟩ => ⟨I1.kIn, ?_⟩) he hpl
  exact run_fn F hr hb hd hx I1 r q
structure Mk (K : PySem.W.Frag) (C f : Addr) : Prop where
  makes : PySem.W.makesIn K C = true
  init : PySem.W.findIn K (.ref C) "__init__" = some (some (.ref f))
  fn : PySem.W.isFn K (.ref f) = true
  kp : PySem.W.keepIn K (.ref C) = true
theorem run_make {pins : List (Addr × Obj)} {σ : St} {H : Hp} {s : Shared} {Q : VK} {us : List Value} {vs : List V} (M : Mk X.K C f) (F : FnOk X.prog X.w X.K X.mg X.base CX k f fd ps sp) (hr : Room (k + 1) X.A) (hb : Binds X.K fd ps ds) (hd : Vals dvs ds)
    (hx : Passes CX X E) (I : Inv X pins σ H s) (r : Vals vs us)
    (h : ∀ x dx, H x = none → H dx = none → dx ≠ x → sp (.ref x :: (vs ++ dvs)) (upd (upd H dx (.own x)) x (.ins C dx [])) (fun v H2 => v = .non ∧ Q (.ref x) H2) E) :
    wpAny (model X.prog X.w) X.A (call (.ref C) us) (EP X pins σ Q) X.xe s := by
  have hq := h (s.heap.objs.size + 1) s.heap.objs.size (I.hok.fresh (Nat.le_succ _)) (I.hok.fresh (Nat.le_refl _)) (Nat.ne_of_lt (Nat.lt_succ_self _))
  have I2 := Inv.made (C := C) I
  have r2 : Vals (V.ref (s.heap.objs.size + 1) :: (vs ++ dvs)) (Value.ref (s.heap.objs.size + 1) :: (us ++ ds)) := .cons rfl (r.append hd)
  have hl : (Value.ref (s.heap.objs.size + 1) :: us ++ ds).length = ps.length := by
    have e := r2.length
    rw [F.len _ _ _ _ hq] at e
    exact e.symm
  refine wpAny_call (make_map (f := f) I.kIn M.makes M.init (beq_iff_eq.mp M.fn) (codeAny_mono (F.run _ X.stack _ _ ⟨Value.ref (s.heap.objs.size + 1) :: us, []⟩ (Value.ref (s.heap.objs.size + 1) :: (us ++ ds)) _ _ E (hr.make C us [])
    (I2.env0.make C us []) (hb _ (Value.ref (s.heap.objs.size + 1) :: us) I2.kIn hl) r2 hq) fun r s' hq' => ?_))
  cases r with
  | error e => exact hx pins σ _ _ e s' I2 hq'
  | ok fl =>
    cases fl with
    | ret u =>
      obtain ⟨v, H', I3, rv, ev, q3⟩ := I2.after hq'
      subst ev
      exact ⟨rv, ⟨V.ref (s.heap.objs.size + 1), H', I3, rfl, q3⟩⟩
    | next => exact False.elim hq'
    | brk => exact False.elim hq'
    | cont => exact False.elim hq'
theorem pe_make (M : Mk X.K C f) (F : FnOk X.prog X.w X.K X.mg X.base CX k f fd ps sp) (hr : Room (k + 1) X.A) (hg : Gl X x) (hm : X.mg x = some (.ref C)) (hb : Binds X.K fd ps ds) (hd : Vals dvs ds) (hx : Passes CX X E)
    (ha : PA X (e :: es) t) (hdb : (x == ("__debug__" : Str)) = false := by decide) (he : starEach (e :: es) X.env = (false, eval e X.env) :: starEach es X.env := by rfl) (hpl : (backTo pos (starEach es X.env)).any (·.1) = false := by rfl) :
    PE X (.Call (.Name x p) (e :: es) [] pos) (tMake C sp dvs E t) := by
  intro pins s σ H Q I h
  refine wpAny_Call_Name_kw (ld_glob I hg hm ?_ hdb)
  refine PySem.W.callWith_K (h₀ := X.base) I.ok.mod.kin M.kp (thn (ha pos pins s σ H _ I h) fun us s1 ⟨vs, H1, I1, r, q⟩ => ⟨I1.kIn, ?_⟩) he hpl
  exact run_make M F hr hb hd hx I1 r q
end
section
variable {X : Cx} {CX : CXT} {k : Nat} {f C : Addr} {fd : FuncData} {ps ks : List Str} {sp : Sp} {E : XK} {x m : Str} {p pos apos kpos : Pos} {e o : Expr} {es : List Expr} {kws : List Keyword} {te ta : TE} {t tk : TA} {nm : Option Str}
variable {g : List Value → List Value → List Value} {gV : List V → List V → List V}
end
/-! ### a def's body keeps its promise -/
structure FnScope (N P : List Str) (sc : Scope) : Prop where
  kind : sc.kind = .function
  co : sc.isCoroutine = false
  gen : sc.isGenerator = false
  nd : N.Nodup
  pre : N.take P.length = P
  par : ∀ x ∈ P, sc.names.lookup x = some .local ∨ sc.names.lookup x = some .cell
  nofree : ∀ y ∈ sc.names, y.2 ≠ .free
theorem bindL_out {kindOf : Str → Option NameKind} {x : Str} : ∀ {binds : List (Str × Value)} {m : Str → Option Value}, (∀ v, (x, v) ∉ binds) → bindL kindOf binds m x = m x
  | [], _, _ => rfl
  | (n, v) :: r, m, h => by
    unfold bindL
    rw [bindL_out fun w hw => h w (List.mem_cons_of_mem _ hw)]
    split
    · have : x ≠ n := by rintro rfl; exact h v List.mem_cons_self
      simp [this]
    · rfl
theorem bindC_out {kindOf : Str → Option NameKind} {x : Str} : ∀ {binds : List (Str × Value)} {m : Str → Option Value}, (∀ v, (x, v) ∉ binds) → bindC kindOf binds m x = m x
  | [], _, _ => rfl
  | (n, v) :: r, m, h => by
    unfold bindC
    rw [bindC_out fun w hw => h w (List.mem_cons_of_mem _ hw)]
    split
    · rfl
    · have : x ≠ n := by rintro rfl; exact h v List.mem_cons_self
      simp [this]
theorem bindL_get {kindOf : Str → Option NameKind} {x : Str} {v : Value} : ∀ {P : List Str} {vs : List Value} {i : Nat} {m : Str → Option Value}, P.Nodup → P[i]? = some x → vs[i]? = some v → kindOf x = some .local →
    bindL kindOf (P.zip vs) m x = some v
  | [], _, _, _, _, h, _, _ => by simp at h
  | _ :: _, [], _, _, _, _, h, _ => by simp at h
  | p :: P, w :: vs, 0, m, nd, h1, h2, hk => by
    simp at h1 h2; subst h1; subst h2
    show bindL kindOf ((p, w) :: P.zip vs) m p = _
    unfold bindL
    rw [bindL_out fun v hv => (List.nodup_cons.mp nd).1 (List.of_mem_zip hv).1, if_pos hk]
    simp
  | p :: P, w :: vs, i + 1, m, nd, h1, h2, hk => by
    show bindL kindOf ((p, w) :: P.zip vs) m x = _
    unfold bindL
    exact bindL_get (i := i) (List.nodup_cons.mp nd).2 (by simpa using h1) (by simpa using h2) hk
theorem bindC_get {kindOf : Str → Option NameKind} {x : Str} {v : Value} : ∀ {P : List Str} {vs : List Value} {i : Nat} {m : Str → Option Value}, P.Nodup → P[i]? = some x → vs[i]? = some v → kindOf x ≠ some .local →
    bindC kindOf (P.zip vs) m x = some v
  | [], _, _, _, _, h, _, _ => by simp at h
  | _ :: _, [], _, _, _, _, h, _ => by simp at h
  | p :: P, w :: vs, 0, m, nd, h1, h2, hk => by
    simp at h1 h2; subst h1; subst h2
    show bindC kindOf ((p, w) :: P.zip vs) m p = _
    unfold bindC
    rw [bindC_out fun v hv => (List.nodup_cons.mp nd).1 (List.of_mem_zip hv).1, if_neg hk]
    simp
  | p :: P, w :: vs, i + 1, m, nd, h1, h2, hk => by
    show bindC kindOf ((p, w) :: P.zip vs) m x = _
    unfold bindC
    exact bindC_get (i := i) (List.nodup_cons.mp nd).2 (by simpa using h1) (by simpa using h2) hk
def start (N : List Str) (vs : List V) : St := vs.map some ++ List.replicate (N.length - vs.length) none
def cxOf (CX : CXT) (P : Program) (w : World) (K : PySem.W.Frag) (mg : Str → Option Value) (base : Heap) (N : List Str) (qual : Str) (scope : Scope) (f : Addr) (cd : Value) (A : Around) (outer : List Env) (s : Shared) (H : Hp) (E : XK) : Cx where
  prog := P
  w := w
  K := K
  mg := mg
  base := base
  A := A.deeper (envOfC qual scope s.heap.objs.size f cd)
  N := N
  s₀ := s
  H₀ := H
  env := envOfC qual scope s.heap.objs.size f cd
  outer := outer
  stack := envOfC qual scope s.heap.objs.size f cd :: outer
  ex := []
  calm := true
  fn := fun _ => true
  pn := []
  xe := fun e s' => wpAny (model P w) (A.deeper (envOfC qual scope s.heap.objs.size f cd)) (leaving (envOfC qual scope s.heap.objs.size f cd) e) (fun _ s'' => CX outer H s E e s'') (fun e' s'' => CX outer H s E e' s'') s'
theorem cell_has {sc : Scope} {n : Nat} {x : Str} (h : sc.names.lookup x = some .cell) : ∃ c, (cellsFrom n sc.names []).lookup x = some c := by
  have q := PySem.W.cellsFrom_some sc.names n [] (.inl h)
  exact Option.isSome_iff_exists.mp q
theorem inv_start {CX : CXT} {P : Program} {w : World} {K : PySem.W.Frag} {mg : Str → Option Value} {base : Heap} {N ps : List Str} {qual : Str} {scope : Scope} {f : Addr} {cd : Value} {A : Around} {outer : List Env} {s s1 : Shared} {H : Hp} {E : XK} {us : List Value} {vs : List V}
    (S : FnScope N ps scope) (hd : A.handled = none) (e0 : Env0 P w K mg base A outer s H) (hl : vs.length = ps.length) (r : Vals vs us)
    (x : InCallC s s.heap.objs.size (bindL (envOfC qual scope s.heap.objs.size f cd).kindOf (ps.zip us) fun _ => none) (cellsFrom (s.heap.objs.size + 1) scope.names []) (bindC (envOfC qual scope s.heap.objs.size f cd).kindOf (ps.zip us) fun _ => none) s1) (hup : s.toks ≤ s1.toks) :
    Inv (cxOf CX P w K mg base N qual scope f cd A outer s H E) [] (start N vs) H s1 := by
  have hpl : ps.length ≤ N.length := by have := congrArg List.length S.pre; rw [List.length_take] at this; omega
  obtain ⟨h1, tk, rfl, hk⟩ := x.done
  have htk : s.toks ≤ tk := hup
  have noA : ∀ b : Addr, b ∉ (cxOf CX P w K mg base N qual scope f cd A outer s H E).ex := fun b z => absurd (show b ∈ ([] : List Addr) from z) (by simp)
  refine ⟨⟨e0.mod, S.kind, rfl, rfl, Nat.le_refl _, fun y z c h1 h2 => ?_, fun y hy => ?_, fun y c _ h => ?_, fun _ => hd, Around.frames_deeper e0.frames, .inr ⟨rfl, rfl⟩, fun b z => absurd z (noA b), e0.bs, e0.bsz, fun b _ _ => noA b, fun b z => absurd z (noA b), e0.funs, e0.frf, e0.tk⟩,
    rfl, e0.bare, Un.kept hk, ⟨_, x.toInCall.ns, fun i y v h1 h2 h3 => ?_⟩, fun y c h => ⟨_, x.cell y c h⟩, e0.hok.fresh (Nat.le_refl _), fun y c h => ?_, fun p hp => absurd (show p ∈ ([] : List (Addr × Obj)) from hp) (by simp), e0.hok.kept hk, ?_, htk⟩
  · exact name_of_addr x.apart (PySem.mem_of_lookup h1) (PySem.mem_of_lookup h2)
  · have hy : scope.names.lookup y = some .cell ∨ scope.names.lookup y = some .free := hy
    rcases hy with hy | hy
    · exact cell_has hy
    · exact absurd rfl (S.nofree _ (PySem.mem_of_lookup hy))
  · exact Nat.le_of_lt (x.above y c (PySem.mem_of_lookup h))
  · have hi : i < vs.length := by
      unfold start at h2
      by_cases hi : i < vs.length
      · exact hi
      · rw [List.getElem?_append_right (by simpa using hi)] at h2
        rw [List.getElem?_replicate] at h2
        split at h2 <;> cases h2
    have ha : vs[i]? = some v := by
      unfold start at h2
      rw [List.getElem?_append_left (by simpa using hi), List.getElem?_map] at h2
      cases e : vs[i]? with
      | none => rw [e] at h2; cases h2
      | some a => rw [e] at h2; cases h2; rfl
    obtain ⟨u, hu, rv⟩ := r.get ha
    have hp : ps[i]? = some y := by
      rw [← S.pre, List.getElem?_take_of_lt (by omega)]; exact h1
    have ndP : ps.Nodup := by rw [← S.pre]; exact S.nd.sublist (List.take_sublist _ _)
    refine ⟨u, rv, ?_⟩
    rcases S.par y (List.mem_of_getElem? hp) with k | k
    · exact .inl ⟨k, bindL_get ndP hp hu k⟩
    · obtain ⟨c, e⟩ := cell_has (n := s.heap.objs.size + 1) k
      refine .inr ⟨.inl k, c, e, ?_⟩
      have q := x.cell y c e
      rw [bindC_get ndP hp hu (by show scope.names.lookup y ≠ _; rw [k]; decide)] at q
      exact q
  · exact e0.hok.fresh (Nat.le_of_lt (x.above y c (PySem.mem_of_lookup h)))
  · unfold start
    show _ = N.length
    rw [List.length_append, List.length_map, List.length_replicate]
    omega
theorem fn_of {CX : CXT} {P : Program} {w : World} {K : PySem.W.Frag} {mg : Str → Option Value} {base : Heap} {k : Nat} {f : Addr} {name qual : Str} {params : Arguments} {body : List Stmt} {scope : Scope} {dV kV doc pm cdv ct oc : Value} {an od : Option Addr}
    {osl : Array (Option Value)} {N ps : List Str} {sp : Sp} (lk : K.lookup f = some ⟨oc, od, .func (PySem.W.fnOf name qual params body scope dV kV doc pm an cdv ct), osl⟩) (hcd : PySem.W.codeIn K cdv qual = true) (S : FnScope N ps scope)
    (len : ∀ vs H Q E, sp vs H Q E → vs.length = ps.length)
    (hbody : ∀ (A : Around) (outer : List Env) (s : Shared) (H : Hp) (vs : List V) (Q : VK) (E : XK), Room k (A.deeper (envOfC qual scope s.heap.objs.size f cdv)) → sp vs H Q E →
      ∃ t, PSs (cxOf CX P w K mg base N qual scope f cdv A outer s H E) body t ∧ t { nx := fun _ H' => Q .non H', rt := Q } (start N vs) H) :
    FnOk P w K mg base CX (k + 1) f (PySem.W.fnOf name qual params body scope dV kV doc pm an cdv ct) ps sp := by
  refine ⟨len, fun A outer s H args us vs Q E hr e0 hb r hsp => ?_⟩
  have hl := len _ _ _ _ hsp
  have KX : K.In s.heap := e0.mod.kin.keeps fun b o e => (e0.bs b o e).1
  have lim : s.heap.NoLimit := e0.mod.nolimit.keeps fun b o e => (e0.bs b o e).1
  have hkind : ∀ y ∈ ps.zip us, scope.names.lookup y.1 = some .local ∨ (scope.names.lookup y.1 = some .cell ∧ ((cellsFrom (s.heap.objs.size + 1) scope.names []).lookup y.1).isSome = true) := fun ⟨n, v⟩ hy => by
    rcases S.par n (List.of_mem_zip hy).1 with q | q
    · exact .inl q
    · exact .inr ⟨q, PySem.W.cellsFrom_some _ _ _ (.inl q)⟩
  refine TK.codeAny_up (Nat.le_refl _) ?_
  refine codeAny_call_function hr.depth (KX _ _ lk) rfl S.co S.gen rfl (PySem.W.codeRec_of KX hcd) (hb _ _ _ _ ?_)
  refine TK.wpAny_up (Nat.le_refl _) (wpAny_newFunctionEnv_cells S.kind hkind fun env he s1 x hup => ?_)
  subst he
  refine ⟨lim.keeps x.toInCall.keep, codeAny_func ?_⟩
  obtain ⟨t, ht, hq⟩ := hbody A outer s H vs Q E (hr.deeper _) hsp
  have I : Inv (cxOf CX P w K mg base N qual scope f cdv A outer s H E) [] (start N vs) H s1 := inv_start S hr.hd e0 hl r x hup
  refine wpAny_mono (ht [] s1 (start N vs) H _ I hq) (fun fl s' hs hup' => ?_) fun e s' hs => wpAny_mono hs (fun _ _ z _ => z) fun _ _ z _ => z
  have fin : ∀ {σ' : St} {H' : Hp} {v : V} {u : Value}, Inv (cxOf CX P w K mg base N qual scope f cdv A outer s H E) [] σ' H' s' → RelV v u → Q v H' → CE outer P w H s Q u s' :=
    fun {σ' H' v u} J rv q => ⟨v, H', J.os, J.bare, J.base, J.hok, rv, hup', q⟩
  cases fl with
  | ret u =>
    obtain ⟨v, σ', H', J, rv, q⟩ := hs
    exact fin J rv q
  | next =>
    obtain ⟨σ', H', J, q⟩ := hs
    exact fin (v := V.non) (u := Value.none) J rfl q
  | brk =>
    obtain ⟨_, _, _, q⟩ := hs
    exact False.elim q
  | cont =>
    obtain ⟨_, _, _, q⟩ := hs
    exact False.elim q
end L2
namespace L2
open PySem PySem.Spec PyProof.Rows
section
variable {X : Cx} {x : Str} {p pos : Pos} {e : Expr} {es : List Expr} {t : TA} {id T : String} {r : List V → Hp → VK → Prop}
def tCB (r : List V → Hp → VK → Prop) (t : TA) : TE := fun σ H Q => t σ H fun vs H1 => r vs H1 Q
theorem pe_callB (hc : CallR X (.builtin id) r) (hg : Gl X x) (hm : X.mg x = none) (hv : bootBuiltins x = some (.builtin id)) (ha : PA X (e :: es) t) (hn : x ≠ "__name__" := by decide) (hdb : (x == ("__debug__" : Str)) = false := by decide)
    (he : starEach (e :: es) X.env = (false, eval e X.env) :: starEach es X.env := by rfl) (hpl : (backTo pos (starEach es X.env)).any (·.1) = false := by rfl) : PE X (.Call (.Name x p) (e :: es) [] pos) (tCB r t) := by
  intro pins s σ H Q I h
  refine wpAny_Call_Name_kw (ld_blt I hg hm hv ?_ hn hdb)
  exact PyProof.Rows.callWith_builtin1 (thn (ha pos pins s σ H _ I h) fun us s1 ⟨vs, H1, I1, r1, q1⟩ => hc pins s1 σ H1 vs us Q I1 r1 q1) he hpl
theorem pe_callTy (hc : CallR X (.type T) r) (hg : Gl X x) (hm : X.mg x = none) (hv : bootBuiltins x = some (.type T)) (ha : PA X (e :: es) t) (hn : x ≠ "__name__" := by decide) (hdb : (x == ("__debug__" : Str)) = false := by decide)
    (he : starEach (e :: es) X.env = (false, eval e X.env) :: starEach es X.env := by rfl) (hpl : (backTo pos (starEach es X.env)).any (·.1) = false := by rfl) : PE X (.Call (.Name x p) (e :: es) [] pos) (tCB r t) := by
  intro pins s σ H Q I h
  refine wpAny_Call_Name_kw (ld_blt I hg hm hv ?_ hn hdb)
  exact PyProof.Rows.callWith_type1 (thn (ha pos pins s σ H _ I h) fun us s1 ⟨vs, H1, I1, r1, q1⟩ => hc pins s1 σ H1 vs us Q I1 r1 q1) he hpl
end
end L2
namespace HT
open PySem PyProof.Rows
section
open PySem.SeqAt
open PySem.AutoSeq1 (wpAny_loadPart')
open PySem.MeetsSeq PySem.MeetsSeq2 PySem.MeetsSeq3
end
section
variable {prog : Program} {w : World} {A : Around} {E : Value → Shared → Prop} {s : Shared}
/-! ### t[a:b], not the whole -/
def sIx (n d : Nat) : Option Int → Nat
  | none => d
  | some v => if v < 0 then (v + (n : Int)).toNat else min v.toNat n
end
end HT
namespace L2
open PySem PySem.Spec PyProof.Rows
/-! ### the parts of a slice -/
abbrev TO := St → Hp → (Option Int → Hp → Prop) → Prop
def PO (X : Cx) (e : Option Expr) (t : TO) : Prop :=
  ∀ (pins : List (Addr × Obj)) (s : Shared) (σ : St) (H : Hp) (Q : Option Int → Hp → Prop), Inv X pins σ H s → t σ H Q →
    wpAny (model X.prog X.w) X.A (evalPart e X.env) (fun u s' => ∃ o H', Inv X pins σ H' s' ∧ IsPart u o ∧ Q o H') X.xe s
def tNoPart : TO := fun _ H Q => Q none H
def tPart (t : TE) : TO := fun σ H Q => t σ H fun x H1 => ∃ i, x = .int i ∧ Q (some i) H1
section
variable {X : Cx} {e : Expr} {te : TE} {lo hi : Option Expr} {tl th : TO} {pos p2 : Pos}
theorem po_none : PO X none tNoPart := by
  intro pins s σ H Q I h
  rw [evalPart_none]
  exact wpAny_pure ⟨none, H, I, .none, h⟩
theorem po_some (h : PE X e te) : PO X (some e) (tPart te) := by
  intro pins s σ H Q I hw
  rw [evalPart_some]
  refine thn (h pins s σ H _ I hw) fun u s1 ⟨x, H1, I1, r1, q1⟩ => ?_
  obtain ⟨i, rfl, q⟩ := q1
  obtain ⟨t, rfl⟩ := r1
  exact ⟨some i, H1, I1, .int i t, q⟩
def SlR (X : Cx) (r : V → Option Int → Option Int → Hp → VK → Prop) : Prop :=
  ∀ (pins : List (Addr × Obj)) (s : Shared) (σ : St) (H : Hp) (x : V) (v vl vu : Value) (lo hi : Option Int) (sl : Addr) (Q : VK), Inv X pins σ H s → RelV x v → s.heap.IsSliceOf sl vl vu .none → IsPart vl lo → IsPart vu hi → r x lo hi H Q →
    ∃ T id, typeLookup (.type T) "__getitem__" = pure (some (.builtin id)) ∧ s.TypeIs v T ∧ wpAny (model X.prog X.w) X.A (getItem v (.ref sl)) (EP X pins σ Q) X.xe s
def tSl (r : V → Option Int → Option Int → Hp → VK → Prop) (te : TE) (tl th : TO) : TE := fun σ H Q => te σ H fun x H1 => tl σ H1 fun l H2 => th σ H2 fun u H3 => r x l u H3 Q
theorem pe_slice {r : V → Option Int → Option Int → Hp → VK → Prop} (hr : SlR X r) (he : PE X e te) (hl : PO X lo tl) (hu : PO X hi th) : PE X (.Subscript e (.Slice lo hi none p2) pos) (tSl r te tl th) := by
  intro pins s σ H Q I h
  refine Subscript_ (thn (he pins s σ H _ I h) fun v s1 ⟨x, H1, I1, r1, q1⟩ => ?_)
  refine wpAny_Slice (thn (hl pins s1 σ H1 _ I1 q1) fun vl s2 ⟨l, H2, I2, pl, q2⟩ => thn (hu pins s2 σ H2 _ I2 q2) fun vu s3 ⟨u, H3, I3, pu, q3⟩ => ?_)
  rw [evalPart_none]
  refine wpAny_pure ?_
  have I4 : Inv X pins σ H3 { s3 with heap := s3.heap.push { cls := .type "slice", data := .fields #[vl, vu, .none] } } := I3.kept (t' := s3.toks) fun b ob q => Heap.get?_push_of_some _ q
  obtain ⟨T, id, hT, ht, hg⟩ := hr pins { s3 with heap := s3.heap.push { cls := .type "slice", data := .fields #[vl, vu, .none] } } σ H3 x v vl vu l u s3.heap.objs.size Q I4 r1 (Heap.IsSliceOf.new ..) pl pu q3
  show wpAny (model X.prog X.w) X.A (subscriptTail e (.Slice lo hi none p2) v (.ref s3.heap.objs.size)) (EP X pins σ Q) X.xe { s3 with heap := s3.heap.push { cls := .type "slice", data := .fields #[vl, vu, .none] } }
  exact tail_any (ops := [.ref s3.heap.objs.size, v]) ht hT hg (by with_unfolding_all rfl)
def cutV (xs : List V) (lo hi : Option Int) : List V := (xs.drop (HT.sIx xs.length 0 lo)).take (HT.sIx xs.length xs.length hi - HT.sIx xs.length 0 lo)
theorem cutV_length (xs : List V) (lo hi : Option Int) : (cutV xs lo hi).length ≤ xs.length := by
  unfold cutV
  rw [List.length_take, List.length_drop]
  omega
end
end L2
namespace L2
open PySem PySem.Spec PyProof.Rows
/-! ### places -/
def ixN (n : Nat) (i : Int) : Option Nat := if 0 ≤ i then (if i < n then some i.toNat else none) else if -(n : Int) ≤ i then some (i + n).toNat else none
def atI {α : Type} (xs : List α) (i : Int) : Option α := (ixN xs.length i).bind fun j => xs[j]?
theorem ixN_seq {n : Nat} {i : Int} {j : Nat} (h : ixN n i = some j) : seqIndex? i n = some j ∧ j < n ∧ -(n : Int) ≤ i ∧ i < n := by
  unfold ixN at h
  by_cases h0 : 0 ≤ i
  · rw [if_pos h0] at h
    by_cases h1 : i < n
    · rw [if_pos h1] at h
      have e : i.toNat = j := Option.some.inj h
      exact ⟨by rw [seqIndex_of h0 h1, e], by omega, by omega, h1⟩
    · rw [if_neg h1] at h; cases h
  · rw [if_neg h0] at h
    by_cases h1 : -(n : Int) ≤ i
    · rw [if_pos h1] at h
      have e : (i + n).toNat = j := Option.some.inj h
      exact ⟨by rw [seqIndex_neg (by omega) h1, e], by omega, h1, by omega⟩
    · rw [if_neg h1] at h; cases h
theorem atI_get {α : Type} {xs : List α} {i : Int} {v : α} (h : atI xs i = some v) : ∃ j, seqIndex? i xs.length = some j ∧ xs[j]? = some v ∧ j < xs.length ∧ -(xs.length : Int) ≤ i ∧ i < xs.length := by
  unfold atI at h
  cases e : ixN xs.length i with
  | none => rw [e] at h; cases h
  | some j =>
    rw [e] at h
    obtain ⟨h1, h2, h3, h4⟩ := ixN_seq e
    exact ⟨j, h1, h, h2, h3, h4⟩
theorem atI_nat {α : Type} {xs : List α} {j : Nat} {v : α} (h : xs[j]? = some v) : atI xs (j : Int) = some v := by
  have hj : j < xs.length := (List.getElem?_eq_some_iff.mp h).1
  have e : ixN xs.length (j : Int) = some j := by
    unfold ixN
    rw [if_pos (by omega), if_pos (by omega)]; simp
  unfold atI; rw [e]; exact h
theorem atI_last {α : Type} (xs : List α) (v : α) : atI (xs ++ [v]) (-1) = some v := by
  have hl : (xs ++ [v]).length = xs.length + 1 := by simp
  have e : ixN (xs ++ [v]).length (-1) = some xs.length := by
    unfold ixN
    rw [hl, if_neg (by decide), if_pos (by omega)]
    congr 1
    omega
  unfold atI
  rw [e]
  show (xs ++ [v])[xs.length]? = some v
  simp
/-! ### what may be subscripted -/
def PlainIx (b : Expr) : Prop := ∀ o i, subscripted b false o i = operate [o, i] (getItem o i)
def IxR (X : Cx) (r : R2) : Prop :=
  ∀ (value slice : Expr) (pins : List (Addr × Obj)) (s : Shared) (σ : St) (H : Hp) (x y : V) (v u : Value) (Q : VK), Inv X pins σ H s → RelV x v → RelV y u → r x y H Q →
    subscripted slice false v u = operate [v, u] (getItem v u) → wpAny (model X.prog X.w) X.A (subscriptTail value slice v u) (EP X pins σ Q) X.xe s
def MtR (X : Cx) (id : String) (r : V → List V → Hp → VK → Prop) : Prop :=
  ∀ (pins : List (Addr × Obj)) (s : Shared) (σ : St) (H : Hp) (x : V) (xs : List V) (v : Value) (us : List Value) (Q : VK), Inv X pins σ H s → RelV x v → Vals xs us → r x xs H Q →
    wpAny (model X.prog X.w) X.A (call (.builtin id) (v :: us)) (EP X pins σ Q) X.xe s
section
variable {X : Cx} {a b : Expr} {ta tb : TE} {pos : Pos}
theorem IxR.or {r r' : R2} (h : IxR X r) (h' : IxR X r') : IxR X (fun x y H Q => r x y H Q ∨ r' x y H Q) := by
  intro value slice pins s σ H x y v u Q I rx ry q hs
  rcases q with q | q
  · exact h value slice pins s σ H x y v u Q I rx ry q hs
  · exact h' value slice pins s σ H x y v u Q I rx ry q hs
theorem pe_ix {r : R2} (hr : IxR X r) (ha : PE X a ta) (hb : PE X b tb) (hs : PlainIx b) : PE X (.Subscript a b pos) (tOp r ta tb) := by
  intro pins s σ H Q I h
  exact Subscript_ (binT ha hb I h fun v u s2 x y H2 I2 rx ry q => hr a b pins s2 σ H2 x y v u Q I2 rx ry q (hs _ _))
def rIxL (K : PySem.W.Frag) : R2 := fun x y H Q => ∃ p xs i v, x = .ref p ∧ y = .int i ∧ SqL K H p xs ∧ atI xs i = some v ∧ Q v H
def rIxT (K : PySem.W.Frag) : R2 := fun x y H Q => ∃ p xs i v, x = .ref p ∧ y = .int i ∧ SqT K H p xs ∧ atI xs i = some v ∧ Q v H
def rIxS : R2 := fun x y H Q => ∃ z i c, x = .str z ∧ y = .int i ∧ z.length ≤ sizeLine ∧ atI z.cps.toList i = some c ∧ Q (.str ⟨#[c]⟩) H
theorem ix_list : IxR X (rIxL X.K) := by
  intro value slice pins s σ H x y v u Q I rx ry h hs
  obtain ⟨p, xs, i, z, rfl, rfl, hq, he, q⟩ := h
  cases rx
  obtain ⟨t, rfl⟩ := ry
  obtain ⟨its, r, pl, hz⟩ := I.list hq
  obtain ⟨j, h1, h2, h3, h4, h5⟩ := atI_get he
  obtain ⟨w, ew, rw'⟩ := r.get h2
  have hl := r.length
  have hn := line63
  have fin : EP X pins σ Q w s := ⟨z, H, I, rw', q⟩
  by_cases h0 : 0 ≤ i
  · have hj : i.toNat = j := by
      rw [seqIndex_of h0 h5] at h1
      exact Option.some.inj h1
    exact item_listR pl.isList h0 (by omega) (by rw [hj]; simpa using ew) fin hs
  · have hj : (i + (its.toArray.size : Int)).toNat = j := by
      rw [seqIndex_neg (by omega) h4] at h1
      rw [List.size_toArray, ← hl]
      exact Option.some.inj h1
    exact subscriptTail_builtinR (x := w) pl.isList.typeIs slot_list_getitem.lookup
      (wpAny_getItem_list_neg (Q := fun r s' => r = w ∧ EP X pins σ Q r s') pl.isList (by omega) (by rw [List.size_toArray] <;> omega) (by omega) (by rw [hj]; simpa using ew) ⟨rfl, fin⟩) hs
theorem ix_tup : IxR X (rIxT X.K) := by
  intro value slice pins s σ H x y v u Q I rx ry h hs
  obtain ⟨p, xs, i, z, rfl, rfl, hq, he, q⟩ := h
  cases rx
  obtain ⟨t, rfl⟩ := ry
  obtain ⟨its, r, pl, hz⟩ := I.tuple hq
  obtain ⟨j, h1, h2, h3, h4, h5⟩ := atI_get he
  obtain ⟨w, ew, rw'⟩ := r.get h2
  have hl := r.length
  have hn := line63
  have fin : EP X pins σ Q w s := ⟨z, H, I, rw', q⟩
  exact subscriptTail_builtinR (x := w) pl.typeIs slot_tuple_getitem.lookup
    (getItem_tuple (j := j) (Q := fun r s' => r = w ∧ EP X pins σ Q r s') pl (by omega) (by omega) (by rw [List.size_toArray, ← hl]; exact h1) (by simpa using ew) ⟨rfl, fin⟩) hs
theorem ix_str : IxR X rIxS := by
  intro value slice pins s σ H x y v u Q I rx ry h hs
  obtain ⟨z, i, c, rfl, rfl, hz, he, q⟩ := h
  obtain ⟨t, rfl⟩ := rx
  obtain ⟨t', rfl⟩ := ry
  obtain ⟨j, h1, h2, h3, h4, h5⟩ := atI_get he
  have hl : z.cps.toList.length = z.length := by simp [Str.length]
  rw [hl] at h1 h4 h5
  have hn := line63
  exact tail_any (typeIs_str s z t) slot_str_getitem.lookup (getItem_str (c := c) (by
    have e1 : decide (i < -(2 ^ 63 : Int)) = false := decide_eq_false (by omega)
    have e2 : decide (i ≥ 2 ^ 63) = false := decide_eq_false (by omega)
    rw [e1, e2, Bool.or_false]) (by rw [h1]; simpa using h2) ⟨.str ⟨#[c]⟩, H, I.tok _, ⟨_, rfl⟩, q⟩) hs
def rIx (K : PySem.W.Frag) : R2 := fun x y H Q => rIxL K x y H Q ∨ rIxT K x y H Q ∨ rIxS x y H Q
theorem ix_seq : IxR X (rIx X.K) := ix_list.or (ix_tup.or ix_str)
/-! ### xs[i] = v, any sign -/
theorem mapSeq_set (its : List Value) (n j : Nat) (u : Value) : Obj.mapSeq (·.setIfInBounds j u) { cls := .type "list", data := .seq its.toArray n } = { cls := .type "list", data := .seq (its.set j u).toArray n } := by
  simp [Obj.mapSeq]
theorem Inv.lst {pins : List (Addr × Obj)} {σ : St} {H : Hp} {s : Shared} {p : Addr} {xs : List V} (I : Inv X pins σ H s) (h : H p = some (.lst xs)) :
    ∃ (its : List Value) (n : Nat), Vals xs its ∧ s.heap.get? p = some { cls := .type "list", data := .seq its.toArray n } ∧ xs.length ≤ sizeLine := by
  obtain ⟨z, its, n, r, e⟩ := I.hok p _ h
  exact ⟨its, n, r, e, z⟩
theorem Inv.lstUpd {pins : List (Addr × Obj)} {σ : St} {H : Hp} {s : Shared} {p : Addr} {xs ys : List V} {its its' : List Value} {n n' : Nat} {f : Obj → Obj} (I : Inv X pins σ H s) (h : H p = some (.lst xs))
    (ho : s.heap.get? p = some { cls := .type "list", data := .seq its.toArray n }) (hf : f { cls := .type "list", data := .seq its.toArray n } = { cls := .type "list", data := .seq its'.toArray n' }) (r : Vals ys its') (hz : ys.length ≤ sizeLine) (t : Nat) (ht : s.toks ≤ t := by first | exact Nat.le_refl _ | exact Nat.le_succ _ | assumption | omega) :
    Inv X pins σ (upd H p (.lst ys)) { s with heap := s.heap.update p f, toks := t } := by
  have e : (s.heap.update p f).get? p = some { cls := .type "list", data := .seq its'.toArray n' } := by
    rw [Heap.get?_update_self f ho (by rw [hf] <;> rfl), hf]
  refine I.write (x := p) (e := p) (by rw [h]; trivial) (.inl rfl) (fun b u hb q => (Heap.get?_update_other _ _ (Ne.symm hb)).trans q) ⟨_, e⟩ ?_
  exact ⟨hz, its', n', r, e⟩
def rSetL : V → V → V → Hp → (Hp → Prop) → Prop := fun o i v H Q => ∃ p xs k j, o = .ref p ∧ i = .int k ∧ H p = some (.lst xs) ∧ ixN xs.length k = some j ∧ Q (upd H p (.lst (xs.set j v)))
theorem set_list : PSet X rSetL := by
  intro pins s σ H o i v ov iv u Q I ro ri rv h
  obtain ⟨p, xs, k, j, rfl, rfl, hp, hj, q⟩ := h
  cases ro
  obtain ⟨t, rfl⟩ := ri
  obtain ⟨its, n, r, ho, hz⟩ := I.lst hp
  obtain ⟨h1, h2, h3, h4⟩ := ixN_seq hj
  have hl := r.length
  have hn := line63
  have I' : Inv X pins σ (upd H p (.lst (xs.set j v))) { s with heap := s.heap.update p (Obj.mapSeq (·.setIfInBounds j u)) } :=
    I.lstUpd hp ho (mapSeq_set its n j u) (r.set rv j) (by rw [List.length_set]; exact hz) s.toks
  by_cases h0 : 0 ≤ k
  · have hk : k.toNat = j := by
      rw [seqIndex_of h0 h4] at h1
      exact Option.some.inj h1
    exact PySem.W.ki_setAt ho h0 (by omega) (by rw [List.size_toArray, ← hl]; exact h4) (by rw [hk]; exact ⟨_, I', q⟩)
  · have hk : (k + (its.toArray.size : Int)).toNat = j := by
      rw [seqIndex_neg (by omega) h3] at h1
      rw [List.size_toArray, ← hl]
      exact Option.some.inj h1
    exact PySem.W.ki_setBack ho (by omega) (by rw [List.size_toArray, ← hl]; exact h3) (by omega) (by rw [hk]; exact ⟨_, I', q⟩)
/-! ### slices -/
theorem slice_bounds (lo hi : Option Int) (n : Nat) : (sliceBounds lo hi none n).1 = ((HT.sIx n 0 lo : Nat) : Int) ∧ (sliceBounds lo hi none n).2.1 = ((HT.sIx n n hi : Nat) : Int) ∧ (sliceBounds lo hi none n).2.2 = 1 := by
  refine ⟨?_, ?_, rfl⟩
  · cases lo with
    | none => simp [sliceBounds, HT.sIx]
    | some i =>
      simp only [sliceBounds, HT.sIx, Option.getD_none, show (1 : Int) > 0 by decide, if_true]
      by_cases h : i < 0
      · simp only [h, if_true] <;> omega
      · simp only [h, if_false] <;> omega
  · cases hi with
    | none => simp [sliceBounds, HT.sIx]
    | some i =>
      simp only [sliceBounds, HT.sIx, Option.getD_none, show (1 : Int) > 0 by decide, if_true]
      by_cases h : i < 0
      · simp only [h, if_true] <;> omega
      · simp only [h, if_false] <;> omega
theorem slicePick_cut (its : List Value) (lo hi : Option Int) : slicePick its.toArray lo hi none = ((its.drop (HT.sIx its.length 0 lo)).take (HT.sIx its.length its.length hi - HT.sIx its.length 0 lo)).toArray := by
  obtain ⟨h1, h2, h3⟩ := slice_bounds lo hi its.toArray.size
  unfold slicePick
  rw [h1, h2, h3]
  simp only [sliceRange_one, pick_run, List.size_toArray] <;> rfl
def rSlL (K : PySem.W.Frag) : V → Option Int → Option Int → Hp → VK → Prop := fun x lo hi H Q => ∃ a xs, x = .ref a ∧ SqL K H a xs ∧ ∀ p, H p = none → Q (.ref p) (upd H p (.lst (cutV xs lo hi)))
theorem sl_list : SlR X (rSlL X.K) := by
  intro pins s σ H x v vl vu lo hi sl Q I rx hs pl pu h
  obtain ⟨a, xs, rfl, hx, q⟩ := h
  cases rx
  obtain ⟨its, r, ht, hz⟩ := I.list hx
  have hlen := r.length
  refine ⟨"list", _, slot_list_getitem.lookup, ht.isList.typeIs, ?_⟩
  refine wpAny_getItem_list_slice ht.isList hs pl pu .none (by simp) ?_ (by rw [List.size_toArray] <;> omega)
  rw [slicePick_cut, ← hlen]
  refine ⟨.ref s.heap.objs.size, _, I.laid (t' := s.toks) (o := .lst (cutV xs lo hi)) (fun b ob q => Heap.get?_push_of_some _ q) (Nat.le_refl _) ?_, rfl, q _ (I.hok.fresh (Nat.le_refl _))⟩
  exact ⟨Nat.le_trans (cutV_length xs lo hi) hz, _, 0, (r.drop (HT.sIx xs.length 0 lo)).take (HT.sIx xs.length xs.length hi - HT.sIx xs.length 0 lo), Heap.get?_push_size _ rfl⟩
/-! ### in, not in: flat items -/
def flatV : V → Bool
  | .non => true
  | .bl _ => true
  | .int _ => true
  | .str _ => true
  | _ => false
def eqV : V → V → Bool
  | .non, .non => true
  | .bl a, .bl b => a == b
  | .bl a, .int b => (if a then 1 else 0) == b
  | .int a, .bl b => a == (if b then 1 else 0)
  | .int a, .int b => a == b
  | .str a, .str b => a == b
  | _, _ => false
theorem eqAt_V {A : Around} {s : Shared} {y x : V} {u v : Value} (ry : RelV y u) (rx : RelV x v) (fy : flatV y = true) (fx : flatV x = true) : SeqAt.EqAt A s u v (eqV y x) := by
  cases y with
  | non =>
    cases ry
    cases x with
    | non => cases rx; exact SeqAt.EqAt.same _
    | bl b => cases rx; exact SeqAt.EqAt.none_bool b
    | int b => obtain ⟨t, rfl⟩ := rx; exact SeqAt.EqAt.none_int b t
    | str b => obtain ⟨t, rfl⟩ := rx; exact SeqAt.EqAt.none_str b t
    | _ => exact absurd (show false = true from fx) Bool.false_ne_true
  | bl a =>
    cases ry
    cases x with
    | non => cases rx; exact SeqAt.EqAt.bool_none a
    | bl b => cases rx; exact SeqAt.EqAt.bool_bool a b
    | int b => obtain ⟨t, rfl⟩ := rx; exact SeqAt.EqAt.bool_int a b t
    | str b => obtain ⟨t, rfl⟩ := rx; exact SeqAt.EqAt.bool_str a b t
    | _ => exact absurd (show false = true from fx) Bool.false_ne_true
  | int a =>
    obtain ⟨t', rfl⟩ := ry
    cases x with
    | non => cases rx; exact SeqAt.EqAt.int_none a t'
    | bl b => cases rx; exact SeqAt.EqAt.int_bool a t' b
    | int b => obtain ⟨t, rfl⟩ := rx; exact SeqAt.EqAt.int_int a t' b t
    | str b => obtain ⟨t, rfl⟩ := rx; exact SeqAt.EqAt.int_str a t' b t
    | _ => exact absurd (show false = true from fx) Bool.false_ne_true
  | str a =>
    obtain ⟨t', rfl⟩ := ry
    cases x with
    | non => cases rx; exact SeqAt.EqAt.str_none a t'
    | bl b => cases rx; exact SeqAt.EqAt.str_bool a t' b
    | int b => obtain ⟨t, rfl⟩ := rx; exact SeqAt.EqAt.str_int a t' b t
    | str b => obtain ⟨t, rfl⟩ := rx; exact SeqAt.EqAt.str_str a t' b t
    | _ => exact absurd (show false = true from fx) Bool.false_ne_true
  | _ => exact absurd (show false = true from fy) Bool.false_ne_true
def eqU (x : V) (u : Value) : Bool := match u with
  | .none => eqV .non x
  | .bool b => eqV (.bl b) x
  | .int i _ => eqV (.int i) x
  | .str z _ => eqV (.str z) x
  | _ => false
theorem eqU_of {x y : V} {u : Value} (r : RelV y u) (f : flatV y = true) : eqU x u = eqV y x := by
  cases y with
  | non => cases r; rfl
  | bl b => cases r; rfl
  | int i => obtain ⟨t, rfl⟩ := r; rfl
  | str z => obtain ⟨t, rfl⟩ := r; rfl
  | _ => exact absurd (show false = true from f) Bool.false_ne_true
theorem any_eqU {x : V} : ∀ {xs : List V} {us : List Value}, Vals xs us → xs.all flatV = true → us.any (eqU x) = xs.any fun y => eqV y x
  | _, _, .nil, _ => rfl
  | y :: xs, u :: us, .cons r t, f => by
    rw [List.all_cons, Bool.and_eq_true] at f
    rw [List.any_cons, List.any_cons, eqU_of r f.1, any_eqU t f.2]
theorem mem_eqAt {A : Around} {s : Shared} {x : V} {v : Value} (rx : RelV x v) (fx : flatV x = true) : ∀ {xs : List V} {us : List Value}, Vals xs us → xs.all flatV = true → ∀ u ∈ us, SeqAt.EqAt A s u v (eqU x u)
  | _, _, .nil, _ => fun u hu => by cases hu
  | y :: xs, u :: us, .cons r t, f => fun u' hu => by
    rw [List.all_cons, Bool.and_eq_true] at f
    rcases List.mem_cons.mp hu with rfl | hu
    · rw [eqU_of r f.1]; exact eqAt_V r rx f.1 fx
    · exact mem_eqAt rx fx t f.2 u' hu
def inV (x : V) (xs : List V) : Bool := xs.any fun y => eqV y x
def rIn (K : PySem.W.Frag) (neg : Bool) : R2 := fun x y H Q => ∃ p xs, y = .ref p ∧ (SqL K H p xs ∨ SqT K H p xs) ∧ flatV x = true ∧ xs.all flatV = true ∧ Q (.bl (if neg then !inV x xs else inV x xs)) H
theorem op_notIn_seq : OpR X (compareOp .NotIn) (rIn X.K true) := by
  intro pins s σ H x y v u Q I rx ry h
  obtain ⟨p, xs, rfl, hq, fx, fs, q⟩ := h
  cases ry
  rcases hq with hq | hq
  · obtain ⟨its, r, pl, hz⟩ := I.list hq
    refine SeqAt.notIn_listAt (eqU x) pl.isList (fun w hw => mem_eqAt rx fx r fs w (by simpa using hw)) ⟨.bl _, H, I, rfl, ?_⟩
    rw [show its.toArray.any (eqU x) = its.any (eqU x) by simp, any_eqU r fs]
    exact q
  · obtain ⟨its, r, pl, hz⟩ := I.tuple hq
    refine SeqAt.notIn_tupleAt (eqU x) pl (fun w hw => mem_eqAt rx fx r fs w (by simpa using hw)) ⟨.bl _, H, I, rfl, ?_⟩
    rw [show its.toArray.any (eqU x) = its.any (eqU x) by simp, any_eqU r fs]
    exact q
theorem op_notIn_str : OpR X (compareOp .NotIn) (fun x y H Q => ∃ i j, x = .str i ∧ y = .str j ∧ Q (.bl (!(!(Builtin.Str.occurrences j i 0 j.length 1).isEmpty))) H) := by
  intro pins s σ H x y v u Q I rx ry h
  obtain ⟨i, j, rfl, rfl, q⟩ := h
  obtain ⟨t, rfl⟩ := rx
  obtain ⟨t', rfl⟩ := ry
  exact notIn_str ⟨.bl _, H, I, rfl, q⟩
theorem call_list_of : CallR X (.type "list") (fun xs H Q => ∃ p ys, xs = [.ref p] ∧ (SqL X.K H p ys ∨ SqT X.K H p ys) ∧ ∀ l, H l = none → Q (.ref l) (upd H l (.lst ys))) := by
  intro pins s σ H xs us Q I r h
  obtain ⟨p, ys, rfl, hq, q⟩ := h
  obtain ⟨u, rfl, rx⟩ := vals1 r
  cases rx
  have fin : ∀ (its : List Value), Vals ys its → ys.length ≤ sizeLine → ∀ (h' : Heap) (c' : Nat), (∀ b o', s.heap.get? b = some o' → h'.get? b = some o') →
      h'.get? s.heap.objs.size = some { cls := .type "list", dict := none, data := .seq its.toArray c', slots := #[] } → EP X pins σ Q (.ref s.heap.objs.size) { s with heap := h' } := fun its r' hz h' c' kp e =>
    ⟨.ref s.heap.objs.size, _, I.laid (t' := s.toks) kp (Nat.le_refl _) (show ObjOk X.prog X.w _ h' _ (.lst ys) from ⟨hz, its, c', r', e⟩), rfl, q _ (I.hok.fresh (Nat.le_refl _))⟩
  rcases hq with hq | hq
  · obtain ⟨its, r', pl, hz⟩ := I.list hq
    have hlen := r'.length
    obtain ⟨o, ho, hc, n, hd⟩ := pl.isList
    exact call_list_seq p (.inl rfl) ho hc hd (fun h' c' kp e => fin its r' hz h' c' kp e) (by simp only [List.size_toArray] <;> omega)
  · obtain ⟨its, r', pl, hz⟩ := I.tuple hq
    have hlen := r'.length
    obtain ⟨o, ho, hc, n, hd⟩ := pl
    exact call_list_seq p (.inr rfl) ho hc hd (fun h' c' kp e => fin its r' hz h' c' kp e) (by simp only [List.size_toArray] <;> omega)
theorem call_tuple_of : CallR X (.type "tuple") (fun xs H Q => ∃ p ys, xs = [.ref p] ∧ ((SqL X.K H p ys ∧ ∀ l, H l = none → Q (.ref l) (upd H l (.tup ys))) ∨ (SqT X.K H p ys ∧ Q (.ref p) H))) := by
  intro pins s σ H xs us Q I r h
  obtain ⟨p, ys, rfl, h⟩ := h
  obtain ⟨u, rfl, rx⟩ := vals1 r
  cases rx
  rcases h with ⟨hq, q⟩ | ⟨hq, q⟩
  · obtain ⟨its, r', pl, hz⟩ := I.list hq
    have hlen := r'.length
    refine call_tuple_list pl.isList (fun h' kp => ?_) (by simp only [List.size_toArray] <;> omega)
    have I1 : Inv X pins σ H { s with heap := h' } := I.kept (t' := s.toks) kp
    have I2 : Inv X pins σ (upd H h'.objs.size (.tup ys)) { s with heap := h'.push { cls := .type "tuple", data := .seq its.toArray } } :=
      I1.laid (t' := s.toks) (fun b o e => Heap.get?_push_of_some _ e) (Nat.le_refl _) (show ObjOk X.prog X.w _ _ _ (.tup ys) from ⟨hz, its, r', IsTup.new _ _⟩)
    exact ⟨.ref h'.objs.size, _, I2, rfl, q _ (I1.hok.fresh (Nat.le_refl _))⟩
  · obtain ⟨its, r', pl, hz⟩ := I.tuple hq
    exact call_tuple_same pl ⟨.ref p, H, I, rfl, q⟩
/-! ### the call of a builtin's method: o.m(..) -/
def tyV (K : PySem.W.Frag) (T : String) (x : V) (H : Hp) : Prop := match x with
  | .str _ => T = "str"
  | .int _ => T = "int"
  | .ref p => (T = "list" ∧ ∃ xs, SqL K H p xs) ∨ (T = "tuple" ∧ ∃ o, K.lookup p = some o ∧ o.cls = .type "tuple" ∧ o.dict = none) ∨
      (T = "dict" ∧ ((∃ kvs, H p = some (.dK kvs)) ∨ ∃ kvs, H p = some (.dT kvs))) ∨ (T = "set" ∧ ∃ S n, H p = some (.set S n))
  | _ => False
theorem tyV_is {pins : List (Addr × Obj)} {σ : St} {H : Hp} {s : Shared} {T : String} {x : V} {v : Value} (I : Inv X pins σ H s) (r : RelV x v) (ty : tyV X.K T x H) :
    s.TypeIs v T ∧ ∀ a, v = .ref a → ∃ ob, s.heap.get? a = some ob ∧ ob.dict = none := by
  cases x with
  | str z =>
    obtain ⟨t, rfl⟩ := r
    cases (show T = "str" from ty)
    exact ⟨typeIs_str s z t, fun _ e => nomatch e⟩
  | int i =>
    obtain ⟨t, rfl⟩ := r
    cases (show T = "int" from ty)
    exact ⟨typeIs_int s i t, fun _ e => nomatch e⟩
  | ref p =>
    cases r
    rcases ty with ⟨rfl, xs, hq⟩ | ⟨rfl, o, hk, hc, hd⟩ | ⟨rfl, hk⟩ | ⟨rfl, S, n, hk⟩
    · obtain ⟨its, _, pl, _⟩ := I.list hq
      refine ⟨pl.isList.typeIs, fun a e => ?_⟩
      cases e
      obtain ⟨o, n, e, c, hd, _⟩ := pl
      exact ⟨o, e, hd⟩
    · refine ⟨⟨o, I.kIn p o hk, hc⟩, fun a e => ?_⟩
      cases e
      exact ⟨o, I.kIn _ o hk, hd⟩
    · have z : ∃ o, s.heap.get? p = some o ∧ o.ExactDict := by
        rcases hk with ⟨kvs, hk⟩ | ⟨kvs, hk⟩
        · obtain ⟨_, _, _, _, o, _, _, e, ex, _⟩ := I.hok p _ hk
          exact ⟨o, e, ex⟩
        · obtain ⟨_, _, _, _, o, _, _, e, ex, _⟩ := I.hok p _ hk
          exact ⟨o, e, ex⟩
      obtain ⟨o, e, ex⟩ := z
      refine ⟨⟨o, e, ex.1⟩, fun a e2 => ?_⟩
      cases e2
      exact ⟨o, e, ex.2.1⟩
    · obtain ⟨o, _, _, _, e, ex, _⟩ := I.hok p _ hk
      refine ⟨⟨o, e, ex.1⟩, fun a e2 => ?_⟩
      cases e2
      exact ⟨o, e, ex.2.1⟩
  | _ => exact False.elim ty
def tBM (K : PySem.W.Frag) (T : String) (r : V → List V → Hp → VK → Prop) (to : TE) (t : TA) : TE := fun σ H Q => to σ H fun x H1 => tyV K T x H1 ∧ t σ H1 fun xs H2 => r x xs H2 Q
variable {o e : Expr} {es : List Expr} {to : TE} {t : TA} {name : Str} {apos cpos : Pos} {T id : String} {r : V → List V → Hp → VK → Prop}
theorem pe_bm (pa : PlainAttrs T) (slot : Slot T name id) (hty : typeOf (.builtin id) = pure (.type "method_descriptor")) (hm : MtR X id r) (ho : PE X o to) (ha : PA X (e :: es) t)
    (hbase : attributeBase o name X.env (eval o X.env) = eval o X.env := by rfl)
    (hfew : ((backTo cpos (starEach (e :: es) X.env)).all (fun x => !x.1) && (backToKw cpos (keywordEach [] X.env)).all (fun x => x.1.isSome)
      && decide ((e :: es).length + ([] : List Keyword).length + (if ([] : List Keyword).isEmpty then 0 else 1) < 30)) = true := by rfl)
    (hline : (apos.endLine == cpos.line) = true := by rfl) (hs : starEach (e :: es) X.env = (false, eval e X.env) :: starEach es X.env := by rfl) (hplain : (backTo cpos (starEach es X.env)).any (·.1) = false := by rfl) :
    PE X (.Call (.Attribute o name apos) (e :: es) [] cpos) (tBM X.K T r to t) := by
  intro pins s σ H Q I h
  refine wpAny_Call_method_late hbase hfew hline rfl (thn (ho pins s σ H _ I h) fun v s1 ⟨x, H1, I1, r1, ty, q1⟩ => ?_)
  obtain ⟨h1, h2⟩ := tyV_is I1 r1 ty
  refine ⟨T, id, pa, slot, hty, h1, h2, ?_⟩
  have hA := ha cpos pins s1 σ H1 _ I1 q1
  rw [hs] at hA ⊢
  refine Calls.callWith_builtin (by show (false || (backTo cpos (starEach es X.env)).any (·.1)) = false; rw [hplain] <;> rfl) (Calls.evalArgs_plain ?_)
  exact thn hA fun us s2 ⟨vs, H2, I2, r2, q2⟩ => hm pins s2 σ H2 x vs v us Q I2 r1 r2 q2
/- xs.append(e), list.index on a module's tuple .. are MtR facts of 06m -/
end
end L2
namespace L2
open PySem PySem.Spec PyProof.Rows
def MtM (X : Cx) (id : String) (r : V → List V → Hp → VK → Prop) : Prop :=
  ∀ (pins : List (Addr × Obj)) (s : Shared) (σ : St) (H : Hp) (x : V) (xs : List V) (v : Value) (us : List Value) (Q : VK), Inv X pins σ H s → RelV x v → Vals xs us → r x xs H Q →
    wpAny (model X.prog X.w) X.A (call (.builtin id) (v :: us)) (EP X pins σ Q) X.xe s
/-! ### lists of values -/
theorem Vals.one : ∀ {x : V} {us : List Value}, Vals [x] us → ∃ u, us = [u] ∧ RelV x u
  | _, _, .cons r .nil => ⟨_, rfl, r⟩
section
variable {X : Cx} {pins : List (Addr × Obj)} {σ : St} {H : Hp} {s : Shared} {l b : Addr} {xs ys zs : List V}
/-! ### the two steps: a tracked list is rewritten, a new list is laid -/
theorem Inv.lset {its its' : List Value} {n : Nat} {f : Array Value → Array Value} {t' : Nat} (I : Inv X pins σ H s) (hH : H l = some (.lst xs))
    (e : s.heap.get? l = some { cls := .type "list", data := .seq its.toArray n }) (hf : f its.toArray = its'.toArray) (hv : Vals ys its') (hz : ys.length ≤ sizeLine) (ht : s.toks ≤ t' := by first | exact Nat.le_refl _ | exact Nat.le_succ _ | assumption | omega) :
    Inv X pins σ (upd H l (.lst ys)) { s with heap := s.heap.update l (Obj.mapSeq f), toks := t' } := by
  have q := PySem.IsL.update e f
  rw [hf] at q
  refine I.write (x := l) (e := l) (by rw [hH]; exact trivial) (.inl rfl) (fun b' u hb hu => (Heap.get?_update_other s.heap (Obj.mapSeq f) (Ne.symm hb)).trans hu) ⟨_, q⟩ ?_
  exact ⟨hz, its', _, hv, q⟩
theorem Inv.lnew {its : List Value} {t' : Nat} (I : Inv X pins σ H s) (hv : Vals ys its) (hz : ys.length ≤ sizeLine) (ht : s.toks ≤ t' := by first | exact Nat.le_refl _ | exact Nat.le_succ _ | assumption | omega) :
    Inv X pins σ (upd H s.heap.objs.size (.lst ys)) { s with heap := s.heap.push { cls := .type "list", data := .seq its.toArray }, toks := t' } :=
  I.laid (fun _ _ q => Heap.get?_push_of_some _ q) (Nat.le_refl _) ⟨hz, its, 0, hv, Heap.get?_push_size _ rfl⟩
theorem Inv.fresh (I : Inv X pins σ H s) : H s.heap.objs.size = none := I.hok.fresh (Nat.le_refl _)
theorem Inv.lstM (I : Inv X pins σ H s) (hH : H l = some (.lst xs)) : xs.length ≤ sizeLine ∧ ∃ (its : List Value) (n : Nat), Vals xs its ∧ xs.length = its.length ∧ s.heap.get? l = some { cls := .type "list", data := .seq its.toArray n } := by
  obtain ⟨z, its, n, r, e⟩ := I.hok l _ hH
  exact ⟨z, its, n, r, r.length, e⟩
end
section
variable {X : Cx}
/-! ### methods -/
def rAppend : V → List V → Hp → VK → Prop := fun x vs H Q => ∃ l xs y, x = .ref l ∧ vs = [y] ∧ H l = some (.lst xs) ∧ xs.length < sizeLine ∧ Q .non (upd H l (.lst (xs ++ [y])))
theorem mt_append : MtM X "list.append" rAppend := by
  intro pins s σ H x vs v us Q I rx rv h
  obtain ⟨l, xs, y, rfl, rfl, hH, hz, q⟩ := h
  cases rx
  obtain ⟨u, rfl, ru⟩ := rv.one
  obtain ⟨z, its, n, r, hl, e⟩ := I.lstM hH
  refine call_meets F.slot_list_append ⟨_, e, rfl⟩ F.entry_list_append (F.args_list_append_2 _ _) (PySem.list_append l its.toArray n u (by rw [List.size_toArray]; omega)) ⟨e, ?_⟩
  refine ⟨.non, _, I.lset (its' := its ++ [u]) hH e (by simp) (r.append (.cons ru .nil)) ?_, rfl, q⟩
  rw [List.length_append, List.length_singleton]
  omega
end
section
variable {prog : Program} {w : World} {A : Around} {E : Value → Shared → Prop} {s : Shared}
end
section
variable {X : Cx}
end
end L2
namespace L2
open PySem PySem.Spec PyProof.Rows
section
variable {κ : Type} [DecidableEq κ]
def valV (kvs : List (κ × V)) (k : κ) : Option V := (kvs.find? fun kv => decide (kv.1 = k)).map (·.2)
theorem valV_pos {p : κ × V} {r : List (κ × V)} {k : κ} (e : p.1 = k) : valV (p :: r) k = some p.2 := by simp [valV, List.find?_cons, e]
theorem valV_neg {p : κ × V} {r : List (κ × V)} {k : κ} (e : ¬ p.1 = k) : valV (p :: r) k = valV r k := by simp [valV, List.find?_cons, e]
theorem RelO.isSome_eq {o : Option V} {u : Option Value} (r : RelO o u) : o.isSome = u.isSome := by
  cases o with
  | none => cases u with
    | none => rfl
    | some _ => exact (show False from r).elim
  | some _ => cases u with
    | none => exact (show False from r).elim
    | some _ => rfl
theorem KV.val {kvs : List (κ × V)} {vs : List (κ × Value)} (r : KV kvs vs) (k : κ) : RelO (valV kvs k) (valueAt vs k) := by
  unfold KV at r
  induction r with
  | nil => exact True.intro
  | @cons p q ps qs h t ih =>
    obtain ⟨h1, h2⟩ := h
    by_cases e : p.1 = k
    · have e' : q.1 = k := h1.symm.trans e
      have b : valueAt (q :: qs) k = some q.2 := by simp [valueAt, List.find?_cons, e']
      rw [valV_pos e, b]; exact h2
    · have e' : ¬ q.1 = k := fun z => e (h1.trans z)
      have b : valueAt (q :: qs) k = valueAt qs k := by simp [valueAt, List.find?_cons, e']
      rw [valV_neg e, b]; exact ih
end
/-! ### a tracked dict, its keys ints and texts or tuples of these -/
theorem kV_is {P : Program} {w : World} {k : Key} {u : Value} (r : RelV (kV k) u) : (mixKind P w).is k u = true := by
  cases k with
  | inl i => obtain ⟨t, e⟩ := (show ∃ t, u = Value.int i t from r); subst e; exact mixKind_int P w i t
  | inr x => obtain ⟨t, e⟩ := (show ∃ t, u = Value.str x t from r); subst e; exact mixKind_str P w x t
section
variable {P : Program} {w : World} {H : Hp} {h : Heap} {a : Addr}
end
section
variable {X : Cx} {pins : List (Addr × Obj)} {σ : St} {H : Hp} {s : Shared} {a : Addr} {y v : V} {u r : Value} {o : Option V} {A : Around} {E : Value → Shared → Prop}
end
section
variable {X : Cx} {pins : List (Addr × Obj)} {σ : St} {H : Hp} {s : Shared} {a : Addr} {kvs : List (Key × V)} {k : Key} {u : Value} {A : Around} {E : Value → Shared → Prop}
end
/-! ### readings and rules -/
def NoSl (i : Expr) : Prop := ∀ ov iv, subscripted i false ov iv = operate [ov, iv] (getItem ov iv)
theorem subD_of {prog : Program} {w : World} {A : Around} {E : Value → Shared → Prop} {s : Shared} {env : Env} {value slice : Expr} {pos : Pos} {T id : String} {Q : Value → Shared → Prop}
    (hl : typeLookup (.type T) "__getitem__" = pure (some (.builtin id))) (hs : NoSl slice)
    (h : wpAny (model prog w) A (eval value env) (fun o s₁ => wpAny (model prog w) A (eval slice env) (fun i s₂ => s₂.TypeIs o T ∧ wpAny (model prog w) A (getItem o i) Q E s₂) E s₁) E s) :
    wpAny (model prog w) A (eval (.Subscript value slice pos) env) Q E s := by
  refine Subscript_ (wpAny_mono h (fun o s₁ h₁ => wpAny_mono h₁ (fun i s₂ h₂ => ?_) fun _ _ x => x) fun _ _ x => x)
  obtain ⟨hT, h₂⟩ := h₂
  unfold subscriptTail
  refine wpAny_bind ?_
  rw [getitemInPython_of_ne hT.not_modules]
  refine wpAny_bind (wpAny_specialOf hT hl ?_)
  have fin : wpAny (model prog w) A (subscripted slice false o i) (fun r s₃ => wpAny (model prog w) A (letTemporaryGo value o r >>= fun _ => pure r) Q E s₃) E s₂ := by
    rw [hs o i]
    exact wpAny_operating (wpAny_mono h₂ (fun r s₃ h₃ => wpAny_bind (wpAny_letTemporaryGo (wpAny_pure h₃))) fun _ _ x => x)
  first
    | exact wpAny_pure (wpAny_bind fin)
    | exact wpAny_bind (wpAny_pure (wpAny_bind fin))
    | exact wpAny_bind fin
section
variable {X : Cx} {o i e value : Expr} {pos pos' tpos : Pos} {td ty tv : TE}
end
section
variable {X : Cx} {pos : Pos}
end
section
variable {X : Cx} {pins : List (Addr × Obj)} {σ : St} {H : Hp} {s : Shared} {a : Addr} {y d : V} {u r : Value} {o : Option V} {A : Around} {E : Value → Shared → Prop}
end
section
variable {X : Cx} {o e f : Expr} {apos cpos : Pos} {td ty tx : TE}
end
section
variable {X : Cx} {pins : List (Addr × Obj)} {σ : St} {H : Hp} {s : Shared} {a : Addr} {kvs : List (Key × V)} {A : Around} {E : Value → Shared → Prop}
end
section
variable {X : Cx} {pins : List (Addr × Obj)} {σ : St} {H : Hp} {s : Shared} {a : Addr} {y : V} {u : Value} {A : Around} {E : Value → Shared → Prop}
end
end L2
namespace Att
open PySem PySem.W PySem.Calls PyProof.Rows
/-! ### the script -/
theorem ints_of_wellAll {P : Params} {h : Heap} : ∀ (ns : List Int) (vs : List Value), WellAll P h vs (ns.map WData.int) → IntsAre vs ns := by
  intro ns
  induction ns with
  | nil =>
    intro vs w
    rw [List.map_nil] at w
    cases w
    exact .nil
  | cons n ns ih =>
    intro vs w
    rw [List.map_cons] at w
    cases w with
    | cons a b =>
      cases a
      exact .cons _ _ (ih _ b)
theorem script_of {l : OpenLaw} {n : Nat} (hn : l.most = some n) {P : Params} {h : Heap} {args : List WData} {vals : List Value}
    (hpre : l.row.toRowW.claim.pre args = true) (hwl : WellAll P h vals args) :
    ∃ a vs ns, vals = [Value.ref a] ∧ args = [WData.list (ns.map WData.int)] ∧ h.get? a = some { cls := .type "list", data := .seq vs.toArray } ∧ IntsAre vs ns ∧ ns.length ≤ n := by
  have hsh : WShape.hasAll [] args [.list .int] = true := (pre_splitW hpre).1
  have hc : l.pre.holds [] { args := args } = true := (pre_splitW hpre).2
  obtain ⟨d, r, rfl, h1, h2⟩ := hasAllW_cons hsh
  obtain rfl := hasAllW_nil h2
  obtain ⟨xs, rfl, h3⟩ := hasW_list h1
  obtain ⟨ns, rfl⟩ := items_int h3
  have hlen : ns.length ≤ n := by
    unfold OpenLaw.pre at hc
    have h4 : (WTm.not (.lt (.lit (.int (n : Int))) (.len (.arg 0)))).holds [] { args := [.list (ns.map .int)] } = true := by
      have h4 := (holds_andW hc).1
      rw [hn] at h4
      exact h4
    have h5 := condW_of h4 (w_not (w_lt w_lit (w_len_list (w_arg rfl))))
    rw [List.length_map] at h5
    refine Nat.le_of_not_lt fun q => ?_
    have q' : (n : Int) < ((ns.length : Nat) : Int) := by omega
    first
      | (rw [decide_eq_true q'] at h5; exact absurd h5 (by decide))
      | (simp at h5; omega)
  cases hwl with
  | cons w1 w2 =>
    cases w2
    cases w1 with
    | list ho hall => exact ⟨_, _, ns, rfl, rfl, ho, ints_of_wellAll ns _ hall, hlen⟩
theorem post_true (l : OpenLaw) (args : List WData) : l.row.toRowW.claim.post args (.bool true) args = true :=
  postW_of (r := l.row.toRowW) (X := (true == true))
    (show WShape.has [] (.bool true) .bool = true by first | rfl | decide | simp [WShape.has, WShape.arms, WShape.armsAll])
    (show (WTm.eq .res (.lit (.bool true))).value [] { args := args, res := some (.bool true), after := args } = some (.bool (true == true)) from w_eq_bool (w_res rfl) w_lit) rfl
section
variable {prog : Program} {w : World} {A : Around} {E : Value → Shared → Prop} {s : Shared} {K : Frag}
end
end Att
namespace L2
open PySem PySem.Spec PyProof.Rows
theorem vals_ints : ∀ {vs : List Value} {ns : List Int}, IntsAre vs ns → Vals (ns.map V.int) vs
  | _, _, .nil => .nil
  | _, _, .cons n t h => .cons ⟨t, rfl⟩ (vals_ints h)
def Only (H : Hp) : Prop := ∀ b, H b = none ∨ ∃ o xs, H b = some (.frz o (.lst xs))
theorem law_call {P : Program} {w : World} {K : PySem.W.Frag} {mg mb : Str → Option Value} {CX : CXT} {k : Nat} {fa a : Addr} {fd : FuncData} {x : Str} {sp : Sp} {s₁ : Shared} {vs : List Value} {ns : List Int}
    (KX : K.In s₁.heap) (hns : s₁.heap.Ns mainGlobals mg) (hb : s₁.heap.Ns builtinsNs mb) (hbb : ∀ x : Str, x ≠ "__name__" → mb x = bootBuiltins x) (hlim : s₁.heap.NoLimit) (hg : s₁.gens = #[]) (htk : TokB mg s₁.toks)
    (ha : s₁.heap.get? a = some { cls := .type "list", data := .seq vs.toArray }) (hi : IntsAre vs ns) (hl : ns.length ≤ sizeLine) (hr : Room k callerA)
    (F : ∀ base : Heap, K.In base → base.Ns mainGlobals mg → FnOk P w K mg base CX k fa fd [x] sp) (hbind : ∀ (s : Shared) (u : Value), BindsTo s fd ⟨[u], []⟩ [(x, u)])
    (hsp : ∀ H : Hp, Only H → SqL K H a (ns.map V.int) → sp [.ref a] H (fun v _ => v = .bl true) fun _ _ _ => False)
    (hCX : ∀ H e s', CX [] H s₁ (fun _ _ _ => False) e s' → False) :
    codeAny (model P w) callerA (.call (.ref fa) ⟨[.ref a], []⟩) (fun r s' => r = .ok (.ret (.bool true)) ∧ OldK s₁.heap s'.heap ∧ s'.os = s₁.os ∧ AllBare s'.gens) s₁ := by
  have rv := vals_ints hi
  have lenV := hi.length
  -- from an abstract heap in which nothing but the script may be tracked
  have core : ∀ H : Hp, Only H → SqL K H a (ns.map V.int) → HOk P w H s₁.heap → (∀ b, H b ≠ none → b = a) → (H a ≠ none → K.lookup a = none) →
      codeAny (model P w) callerA (.call (.ref fa) ⟨[.ref a], []⟩) (fun r s' => r = .ok (.ret (.bool true)) ∧ OldK s₁.heap s'.heap ∧ s'.os = s₁.os ∧ AllBare s'.gens) s₁ := by
    intro H hO hS hok hA hK
    have base_of : ∀ {b : Addr} {o : Obj}, s₁.heap.get? b = some o → H b = none → (hidT s₁.heap H).get? b = some o := fun e n => hidT_get e n
    have noA : ∀ {b : Addr} {o : Obj} {es : Array DictEntry} {ep : Nat}, s₁.heap.get? b = some o → o.data = .dict es ep → H b = none := fun {b o es ep} e d => by
      cases q : H b with
      | none => rfl
      | some u =>
        have e' : b = a := hA b (by rw [q]; simp)
        subst e'
        rw [ha] at e; cases e
        have d' : Data.seq vs.toArray _ = Data.dict es ep := d
        cases d'
    have nsK : ∀ {b : Addr} {m : Str → Option Value}, s₁.heap.Ns b m → (hidT s₁.heap H).Ns b m := fun {b m} ⟨o, es, ep, e, d, r⟩ => ⟨o, es, ep, base_of e (noA e d), d, r⟩
    have hKb : K.In (hidT s₁.heap H) := fun b o e => base_of (KX b o e) (by
      cases q : H b with
      | none => rfl
      | some u =>
        have e' : b = a := hA b (by rw [q]; simp)
        subst e'
        rw [hK (by rw [q]; simp)] at e; cases e)
    have hM : Mod K mg (hidT s₁.heap H) := ⟨hKb, nsK hns, ⟨mb, nsK hb, hbb⟩, let ⟨mc, h1, h2⟩ := hlim; ⟨mc, nsK h1, h2⟩⟩
    have e0 : Env0 P w K mg (hidT s₁.heap H) callerA [] s₁ H := ⟨rfl, hM, fun b o e => of_hidT e, Nat.le_of_eq (hidT_size _ _), trivial, fun b hb => absurd (show b ∈ ([] : List Addr) from hb) (by simp), hok, .of_eq hg, htk⟩
    refine codeAny_mono ((F _ hKb (nsK hns)).run callerA [] s₁ H ⟨[.ref a], []⟩ [.ref a] [.ref a] _ _ hr e0 (hbind s₁ (.ref a)) (.cons rfl .nil) (hsp H hO hS)) fun r s' h => ?_
    cases r with
    | error e => exact (hCX H e s' h).elim
    | ok fl =>
      cases fl with
      | next => exact False.elim h
      | brk => exact False.elim h
      | cont => exact False.elim h
      | ret u =>
        obtain ⟨v, H', os, bare, un, hok', r', _, q⟩ := h
        have q' : v = .bl true := q
        subst q'
        obtain rfl : u = Value.bool true := r'
        refine ⟨rfl, OldK.of_keep fun b o e => ?_, os, bare⟩
        cases q : H b with
        | none => exact un.keep b o e q (by intro z; exact absurd (show b ∈ ([] : List Addr) from z) (by simp)) (by simp)
        | some u =>
          rcases hO b with z | ⟨ob, xs, z⟩
          · rw [q] at z; cases z
          · have z2 := un.frzs b ob _ z
            obtain ⟨e1, _⟩ := hok b _ z
            obtain ⟨e2, _⟩ := hok' b _ z2
            rw [e] at e1; cases e1
            exact e2
  cases hk : K.lookup a with
  | some o =>
    -- the script is one of the module's own objects
    have e := KX a o hk
    rw [ha] at e
    cases e
    refine core (fun _ => none) (fun _ => .inl rfl) (.inr ⟨_, vs.toArray, _, hk, rfl, rfl, rfl, by rw [List.size_toArray, lenV]; exact hl, by simpa using rv⟩) (fun b u z => by have z' : (none : Option HO) = some u := z; cases z') (fun b z => absurd rfl z) fun z => absurd rfl z
  | none =>
    refine core (fun b => if b = a then some (.frz { cls := .type "list", data := .seq vs.toArray } (.lst (ns.map V.int))) else none) (fun b => ?_) (.inl (.inr ⟨{ cls := .type "list", data := .seq vs.toArray }, if_pos rfl⟩)) (fun b u z => ?_) (fun b z => ?_) fun _ => hk
    · by_cases hb : b = a
      · exact .inr ⟨_, _, if_pos hb⟩
      · exact .inl (if_neg hb)
    · by_cases hb : b = a
      · have z' := (if_pos hb).symm.trans z
        cases z'
        subst hb
        exact ⟨ha, by rw [List.length_map]; exact hl, vs, _, rv, ha⟩
      · have z' := (if_neg hb).symm.trans z
        cases z'
    · by_cases hb : b = a
      · exact hb
      · exact absurd (if_neg hb) z
end L2
namespace L2
open PySem PySem.Spec PyProof.Rows
end L2
namespace L2
open PySem PySem.Spec PyProof.Rows
/-! ### the text by places -/
def inClass (s : Stmt) (j : Nat) : Stmt := match s with
  | .ClassDef _ _ _ body _ _ _ _ _ _ _ => body.getD j (.Pass ⟨0, 0, 0, 0⟩)
  | _ => .Pass ⟨0, 0, 0, 0⟩
def defArgs (s : Stmt) : Arguments := match s with
  | .FunctionDef _ a _ _ _ _ _ _ _ _ => a
  | _ => { posonlyargs := [], args := [], vararg := none, kwonlyargs := [], kw_defaults := [], kwarg := none, defaults := [] }
def defBody (s : Stmt) : List Stmt := match s with
  | .FunctionDef _ _ b _ _ _ _ _ _ _ => b
  | _ => []
def defScope (s : Stmt) : Scope := match s with
  | .FunctionDef _ _ _ _ _ _ sc _ _ _ => sc
  | _ => { kind := .function, names := [], isGenerator := false, isCoroutine := false }
/-! ### no exception leaves a def -/
abbrev CX0 : CXT := fun _ _ _ _ _ _ => False
abbrev E0 : XK := fun _ _ _ => False
theorem pass0 {X : Cx} : Passes CX0 X E0 := fun _ _ _ _ _ _ _ h => h.elim
/-! ### a def (or method) of the text as it stands behind the top -/
structure Fun (K : PySem.W.Frag) (x qual : Str) (st : Stmt) (f : Addr) (fd : FuncData) : Prop where
  ex : ∃ (oc : Value) (od : Option Addr) (kV doc pm : Value) (an : Option Addr) (cdv ct : Value) (osl : Array (Option Value)),
    fd = PySem.W.fnOf x qual (defArgs st) (defBody st) (defScope st) .none kV doc pm an cdv ct ∧ K.lookup f = some ⟨oc, od, .func fd, osl⟩ ∧ PySem.W.codeIn K cdv qual = true
  kp : PySem.W.keepIn K (.ref f) = true
section
variable {P : Program} {w : World} {K : PySem.W.Frag} {mg : Str → Option Value} {base : Heap}
theorem Fun.ok {x qual : Str} {st : Stmt} {f : Addr} {fd : FuncData} {N ps : List Str} {k : Nat} {sp : Sp} (F : Fun K x qual st f fd) (S : FnScope N ps (defScope st)) (len : ∀ vs H Q E, sp vs H Q E → vs.length = ps.length)
    (hbody : ∀ (cdv : Value) (A : Around) (outer : List Env) (s : Shared) (H : Hp) (vs : List V) (Q : VK) (E : XK), Room k (A.deeper (envOfC qual (defScope st) s.heap.objs.size f cdv)) → sp vs H Q E →
      ∃ t, PSs (cxOf CX0 P w K mg base N qual (defScope st) f cdv A outer s H E).nox (defBody st) t ∧ t { nx := fun _ H' => Q .non H', rt := Q } (start N vs) H) : FnOk P w K mg base CX0 (k + 1) f fd ps sp := by
  obtain ⟨oc, od, kV, doc, pm, an, cdv, ct, osl, rfl, lk, hcd⟩ := F.ex
  refine fn_of lk hcd S len fun A outer s H vs Q E hr hsp => ?_
  obtain ⟨t, h, q⟩ := hbody cdv A outer s H vs Q E hr hsp
  exact ⟨t, h.nox, q⟩
theorem Fun.binds {x qual : Str} {st : Stmt} {f : Addr} {fd : FuncData} {ps : List Str} (F : Fun K x qual st f fd)
    (h : ∀ (kV doc pm : Value) (an : Option Addr) (cdv ct : Value) (us : List Value), us.length = ps.length → bindArgs (PySem.W.fnOf x qual (defArgs st) (defBody st) (defScope st) .none kV doc pm an cdv ct) ⟨us, []⟩ = pure (ps.zip us)) : Binds K fd ps [] := by
  obtain ⟨oc, od, kV, doc, pm, an, cdv, ct, osl, rfl, lk, hcd⟩ := F.ex
  exact .all (h kV doc pm an cdv ct)
theorem fun_mk {x qual : Str} {st : Stmt} {f : Addr} {oc : Value} {od an : Option Addr} {osl : Array (Option Value)} {kV doc pm cdv ct : Value} (l : K.lookup f = some ⟨oc, od, .func (PySem.W.fnOf x qual (defArgs st) (defBody st) (defScope st) .none kV doc pm an cdv ct), osl⟩)
    (c : PySem.W.codeIn K cdv qual = true) (k : PySem.W.keepIn K (.ref f) = true) : Fun K x qual st f (PySem.W.fnOf x qual (defArgs st) (defBody st) (defScope st) .none kV doc pm an cdv ct) := ⟨⟨oc, od, kV, doc, pm, an, cdv, ct, osl, rfl, l, c⟩, k⟩
end
section
variable {X : Cx}
theorem pv (i : Nat) {x : Str} {pos : Pos} (hN : X.N[i]? = some x := by rfl) (hv : Vis X.env.scope x := by first | exact Or.inl rfl | exact Or.inr (Or.inl rfl) | exact Or.inr (Or.inr rfl)) (hd : (x == ("__debug__" : Str)) = false := by decide)
    (hcd : (x == ("__classdict__" : Str)) = false := by decide) : PE X (.Name x pos) (tVar i) := pe_var hN hv hd hcd
end
/-! ### tests -/
theorem iteF {A B : Prop} (h : B) : if false = true then A else B := by
  rw [if_neg Bool.false_ne_true]
  exact h
theorem iteT {A B : Prop} (h : A) : if true = true then A else B := by
  rw [if_pos rfl]
  exact h
/-! ### heaps -/
def Same (H H' : Hp) : Prop := ∀ b o, H b = some o → H' b = some o
theorem Same.refl (H : Hp) : Same H H := fun _ _ h => h
theorem Same.trans {H H1 H2 : Hp} (a : Same H H1) (b : Same H1 H2) : Same H H2 := fun c o h => b c o (a c o h)
theorem Same.free {H H' : Hp} (e : Same H H') {l : Addr} (h : H' l = Option.none) : H l = Option.none := by
  cases q : H l with
  | none => rfl
  | some o =>
    rw [e l o q] at h
    cases h
theorem Same.seq {K : PySem.W.Frag} {H H' : Hp} {a : Addr} {xs : List V} (e : Same H H') (h : SqL K H a xs) : SqL K H' a xs := by
  rcases h with (h | ⟨o, h⟩) | h
  · exact .inl (.inl (e _ _ h))
  · exact .inl (.inr ⟨o, e _ _ h⟩)
  · exact .inr h
section
variable {κ : Type} [DecidableEq κ]
end
end L2

namespace GP
theorem len1 {α : Type} : ∀ {l : List α}, l.length = 1 → ∃ a, l = [a]
  | [a], _ => ⟨a, rfl⟩
theorem len_s {α : Type} {n : Nat} : ∀ {l : List α}, l.length = n + 1 → ∃ a r, l = a :: r ∧ r.length = n
  | a :: r, h => ⟨a, r, rfl, Nat.succ.inj h⟩
theorem len2 {α : Type} {l : List α} (h : l.length = 2) : ∃ a b, l = [a, b] := by
  obtain ⟨a, r, rfl, k⟩ := len_s h
  obtain ⟨b, rfl⟩ := len1 k
  exact ⟨a, b, rfl⟩
theorem len3 {α : Type} {l : List α} (h : l.length = 3) : ∃ a b c, l = [a, b, c] := by
  obtain ⟨a, r, rfl, k⟩ := len_s h
  obtain ⟨b, c, rfl⟩ := len2 k
  exact ⟨a, b, c, rfl⟩
theorem len4 {α : Type} {l : List α} (h : l.length = 4) : ∃ a b c d, l = [a, b, c, d] := by
  obtain ⟨a, r, rfl, k⟩ := len_s h
  obtain ⟨b, c, d, rfl⟩ := len3 k
  exact ⟨a, b, c, d, rfl⟩
theorem len5 {α : Type} {l : List α} (h : l.length = 5) : ∃ a b c d e, l = [a, b, c, d, e] := by
  obtain ⟨a, r, rfl, k⟩ := len_s h
  obtain ⟨b, c, d, e, rfl⟩ := len4 k
  exact ⟨a, b, c, d, e, rfl⟩
theorem len6 {α : Type} {l : List α} (h : l.length = 6) : ∃ a b c d e f, l = [a, b, c, d, e, f] := by
  obtain ⟨a, r, rfl, k⟩ := len_s h
  obtain ⟨b, c, d, e, f, rfl⟩ := len5 k
  exact ⟨a, b, c, d, e, f, rfl⟩
end GP


namespace L2
open PySem PySem.Spec PyProof.Rows
section
variable {X : Cx}
/-! ### isinstance, all -/
theorem call_isinst : CallR X (.builtin "isinstance") (fun xs H Q => ∃ x n t b, xs = [x, .ty n] ∧ TyOf X.K H x t ∧ PySem.W.kitOne X.K t (.type n) = some b ∧ Q (.bl b) H) := by
  intro pins s σ H xs us Q I r h
  obtain ⟨x, n, t, b, rfl, ty, e, q⟩ := h
  obtain ⟨u, w', rfl, rx, rn⟩ := vals2 r
  cases rn
  exact TK.wpAny_up (Nat.le_refl _) (isinst_ok I rx ty e fun tk hup => ⟨.bl b, H, I.tok _, rfl, q⟩)
theorem bools_get : ∀ {bs : List Bool} {us : List Value}, Vals (bs.map V.bl) us → ∀ (i : Nat) (v : Value), us[i]? = some v → ∃ b, bs[i]? = some b ∧ v = .bool b
  | [], _, r, i, v, e => by
    cases r
    simp at e
  | b :: bs, _, r, i, v, e => by
    cases r with
    | cons r1 r2 =>
      cases i with
      | zero =>
        simp at e
        subst e
        exact ⟨b, rfl, r1⟩
      | succ i =>
        obtain ⟨c, h1, h2⟩ := bools_get r2 i v (by simpa using e)
        exact ⟨c, by simpa using h1, h2⟩
theorem range_allB (bs : List Bool) : ((List.range bs.length).all fun i => (bs[i]?).getD true) = bs.all id := by
  rw [Bool.eq_iff_iff, List.all_eq_true, List.all_eq_true]
  constructor
  · intro h b hb
    obtain ⟨i, hi, rfl⟩ := List.getElem_of_mem hb
    have := h i (List.mem_range.mpr hi)
    simpa only [List.getElem?_eq_getElem hi, Option.getD_some, id] using this
  · intro h i hi
    have hi' := List.mem_range.mp hi
    simpa only [List.getElem?_eq_getElem hi', Option.getD_some, id] using h _ (List.getElem_mem hi')
theorem call_all_bl (hc : X.calm = true) : CallR X (.builtin "all") (fun xs H Q => ∃ (l : Addr) (bs : List Bool), xs = [.ref l] ∧ SqL X.K H l (bs.map V.bl) ∧ Q (.bl (bs.all id)) H) := by
  intro pins s σ H xs us Q I r h
  obtain ⟨l, bs, rfl, hl, q⟩ := h
  obtain ⟨u, rfl, ru⟩ := vals1 r
  cases ru
  obtain ⟨its, rv, p, hz⟩ := I.list hl
  have pl : s.heap.IsList l its.toArray := p.isList
  have hlt : l < s.heap.objs.size := by obtain ⟨_, e, _⟩ := pl; exact Heap.lt_size e
  have hlen : bs.length = its.length := by rw [← rv.length, List.length_map]
  refine TK.wpAny_up (Nat.le_refl s.toks) ?_
  refine call_all_walk (wpAny_pyIter_list pl ?_)
  refine ⟨s.heap.objs.size, [s.heap.objs.size, l], [s.heap.objs.size], its.toArray.size, _, _, fun i => (bs[i]?).getD true, rfl, Walks.list (A := X.A.in1) (I.ok.hd hc) _ l (Nat.ne_of_lt hlt) its.toArray,
    ⟨⟨_, Heap.get?_push_size _ rfl, rfl, rfl⟩, pl.push _⟩, fun i v s' Q' E' hP hQ => ?_, fun h' tk hk hup => ?_⟩
  · obtain ⟨b, e, rfl⟩ := bools_get rv i v (by simpa using hP)
    simp only [e, Option.getD_some] at hQ
    exact wpAny_truthy_bool hQ
  · have e : ((List.range its.toArray.size).all fun i => (bs[i]?).getD true) = bs.all id := by
      rw [List.size_toArray, ← hlen]; exact range_allB bs
    rw [e]
    refine ⟨.bl (bs.all id), H, I.kept (t' := tk) (fun b x e => hk b x (fun hm => ?_) (Heap.get?_push_of_some _ e)), rfl, q⟩
    rw [List.mem_singleton.mp hm] at e
    exact Nat.lt_irrefl _ (Heap.lt_size e)
end
theorem pg_tupK {X : Cx} {K' : PySem.W.Frag} {es : List Expr} {k : Nat} {t : TGs} {n : Nat} {pos : Pos} (hK : X.K = K') (hc : X.calm = true) (h : PGs X es t)
    (hn : (assignEach es X.env).length = n := by rfl) (hst : (assignEach es X.env).findIdx? (·.1) = none := by rfl) : PG X (.Tuple es k pos) (gTup K' n t) := by
  subst hK
  exact pg_tup hc h hn hst
/-! ### a word between two statements -/
def tMid (t u : TS) : TS := fun D σ H => ∃ Mid : St → Hp → Prop, t { D with nx := Mid } σ H ∧ ∀ σ' H', Mid σ' H' → u D σ' H'
theorem pss_mid {X : Cx} {st : Stmt} {rest : List Stmt} {t u : TS} (h1 : PS X st t) (h2 : PSs X rest u) : PSs X (st :: rest) (tMid t u) := by
  intro pins s σ H D I h
  obtain ⟨Mid, h, hm⟩ := h
  refine wpAny_execs_cons (thn (h1 pins s σ H { D with nx := Mid } I h) fun f s1 q => ?_)
  cases f with
  | next =>
    obtain ⟨σ', H', I', q⟩ := q
    exact h2 pins s1 σ' H' D I' (hm σ' H' q)
  | ret v => exact q
  | brk => exact q
  | cont => exact q
/-! ### a list comprehension of one clause without tests -/
def cxComp (X : Cx) (scope : Scope) (cl : List (Str × Addr)) (C : Addr) (N : List Str) (s : Shared) (H : Hp) (ex : List Addr) (pn : List (Addr × Obj)) (E : Value → Shared → Prop) : Cx :=
  { X with N := N, s₀ := s, H₀ := H, env := compEnvC scope cl C X.env, outer := X.stack, ex := ex, fn := fun x => scope.names.lookup x == some .cell, pn := pn, xe := E }
structure CompSc (X : Cx) (scope : Scope) (cl : List (Str × Addr)) (N : List Str) (σ0 : St → St) : Prop where
  clos : closureFor scope X.env = pure cl
  kind : scope.kind = .function
  cell : ∀ y ∈ scope.names, y.2 = .cell → cl.lookup y.1 = none
  names : ∀ y ∈ scope.names, y.2 = .local → scope.names.lookup y.1 = some .local
  sub : ∀ x c, cl.lookup x = some c → X.env.cells.lookup x = some c
  has : ∀ x, ((relabel scope X.env).names.lookup x = some .cell ∨ (relabel scope X.env).names.lookup x = some .free) → scope.names.lookup x = some .cell ∨ ∃ c, cl.lookup x = some c
  len : ∀ σ, (σ0 σ).length = N.length
  fv : ∀ (σ : St) (i : Nat) (x : Str) (v : V), N[i]? = some x → (σ0 σ)[i]? = some (some v) → Vis (relabel scope X.env) x →
    ∃ (j : Nat) (c : Addr), X.N[j]? = some x ∧ σ[j]? = some (some v) ∧ X.env.kindOf x = some .cell ∧ ((relabel scope X.env).names.lookup x = some .cell ∨ (relabel scope X.env).names.lookup x = some .free) ∧ cl.lookup x = some c
structure CompCl (cl cl' : List (Str × Addr)) (scope : Scope) (n : Nat) (h₁ : Heap) : Prop where
  look : ∀ x c, cl'.lookup x = some c → (n < c ∧ h₁.IsCell c none) ∨ cl.lookup x = some c
  inj : ∀ x y c, n < c → cl'.lookup x = some c → cl'.lookup y = some c → (∀ x, cl.lookup x ≠ some c) → x = y
  keep : ∀ x c, cl.lookup x = some c → cl'.lookup x = some c
  own : ∀ x, scope.names.lookup x = some .cell → ∃ c, cl'.lookup x = some c
theorem cellsFrom_app : ∀ (names : List (Str × NameKind)) (n : Nat) (acc : List (Str × Addr)), cellsFrom n names acc = cellsFrom n names [] ++ acc
  | [], _, _ => rfl
  | (y, k) :: r, n, acc => by
    unfold cellsFrom
    split
    · rw [cellsFrom_app r _ ((y, n) :: acc), cellsFrom_app r _ [(y, n)], List.append_assoc]; rfl
    · exact cellsFrom_app r n acc
theorem cellsFrom_mem : ∀ (names : List (Str × NameKind)) (n : Nat) (acc : List (Str × Addr)) (x : Str) (c : Addr), (x, c) ∈ cellsFrom n names acc → (x, NameKind.cell) ∈ names ∨ (x, c) ∈ acc
  | [], _, _, _, _, h => .inr h
  | (y, k) :: r, n, acc, x, c, h => by
    unfold cellsFrom at h
    split at h
    next hk =>
      rcases cellsFrom_mem r _ _ x c h with z | z
      · exact .inl (List.mem_cons_of_mem _ z)
      · rcases List.mem_cons.mp z with e | e
        · cases e
          have hk' : k = .cell := by simpa using hk
          rw [hk']
          exact .inl List.mem_cons_self
        · exact .inr e
    next => exact (cellsFrom_mem r _ _ x c h).imp (List.mem_cons_of_mem _) id
theorem comp_env {X : Cx} {scope : Scope} {cl : List (Str × Addr)} {N : List Str} {σ0 : St → St} (S : CompSc X scope cl N σ0) {M : Model} {A : Around} {E : Value → Shared → Prop} {s : Shared} {Q : Env → Shared → Prop}
    (h : ∀ cl' h₁, CompCl cl cl' scope s.heap.objs.size h₁ → h₁.Ns s.heap.objs.size (fun _ => none) → (∀ b o, s.heap.get? b = some o → h₁.get? b = some o) → Q { compEnvC scope cl' s.heap.objs.size X.env with scope := scope } { s with heap := h₁ }) :
    wpAny M A (newFunctionEnv scope X.env.globals cl [] X.env.qual none .none (some X.env)) Q E s := by
  simp only [newFunctionEnv, Option.isSome_some, if_true]
  refine wpAny_bind (wpAny_alloc ?_)
  refine wpAny_bind (wpAny_layCells _ (fun name kind cells => by cases hkc : kind == NameKind.cell <;> simp [hkc]) _ _ _ _ ?_)
  have hz : (s.heap.push { cls := .type "dict", data := .dict #[] }).objs.size = s.heap.objs.size + 1 := Heap.size_push ..
  have ok := cellsFrom_ok scope.names (s.heap.push { cls := .type "dict", data := .dict #[] }) (s.heap.objs.size + 1) [] ⟨fun _ _ hm => (nomatch hm), List.Pairwise.nil⟩ (by rw [hz]; exact Nat.le_refl _)
  simp only [List.forIn_nil]
  refine wpAny_bind (wpAny_pure (wpAny_pure (h (cellsFrom (s.heap.push { cls := .type "dict", data := .dict #[] }).objs.size scope.names cl) _ ⟨fun x c e => ?_, fun x y c _ ex ey hn => ?_, fun x c e => ?_, fun x e => ?_⟩ ((Heap.Ns.new s.heap (.type "dict")).keeps fun b o e => pushCells_keeps _ _ _ _ e) fun b o e => pushCells_keeps _ _ _ _ (Heap.get?_push_of_some _ e))))
  · rw [cellsFrom_app, List.lookup_append] at e
    cases q : (cellsFrom (s.heap.push { cls := .type "dict", data := .dict #[] }).objs.size scope.names []).lookup x with
    | none => rw [q] at e; exact .inr e
    | some d =>
      rw [q] at e
      cases e
      exact .inl ((ok.empty x c (mem_of_lookup q)).symm)
  · rw [cellsFrom_app, List.lookup_append] at ex ey
    cases qx : (cellsFrom (s.heap.push { cls := .type "dict", data := .dict #[] }).objs.size scope.names []).lookup x with
    | none => rw [qx] at ex; exact absurd ex (hn x)
    | some d =>
      rw [qx] at ex
      cases ex
      cases qy : (cellsFrom (s.heap.push { cls := .type "dict", data := .dict #[] }).objs.size scope.names []).lookup y with
      | none => rw [qy] at ey; exact absurd ey (hn y)
      | some d =>
        rw [qy] at ey
        cases ey
        exact name_of_addr ok.apart (mem_of_lookup qx) (mem_of_lookup qy)
  · rw [cellsFrom_app, List.lookup_append]
    cases q : (cellsFrom (s.heap.push { cls := .type "dict", data := .dict #[] }).objs.size scope.names []).lookup x with
    | none => exact e
    | some d =>
      rcases cellsFrom_mem _ _ _ _ _ (mem_of_lookup q) with z | z
      · rw [S.cell _ z rfl] at e; cases e
      · cases z
  · exact Option.isSome_iff_exists.mp (PySem.W.cellsFrom_some _ _ _ (.inl e))
theorem CompSc.plain {X : Cx} {scope : Scope} {N : List Str} (hfree : ∀ x ∈ scope.names, x.2 ≠ .free) (kind : scope.kind = .function) (_ : ∀ y ∈ scope.names, y.2 = .cell → (y.1, NameKind.free) ∉ scope.names)
    (names : ∀ y ∈ scope.names, y.2 = .local → scope.names.lookup y.1 = some .local) : CompSc X scope [] N (fun _ => List.replicate N.length none) := by
  have hr : (relabel scope X.env).names = scope.names := by
    unfold relabel
    exact map_eq_self fun x hx => by
      obtain ⟨n, k⟩ := x
      have : (k == NameKind.free) = false := by simpa using hfree _ hx
      simp [this]
  refine ⟨closureFor_none hfree, kind, fun _ _ _ => rfl, names, fun x c e => by simp at e, fun x hx => ?_, fun σ => List.length_replicate, fun σ i x v _ e _ => ?_⟩
  · rw [hr] at hx
    rcases hx with hx | hx
    · exact .inl hx
    · exact absurd rfl (hfree _ (PySem.mem_of_lookup hx))
  · rw [List.getElem?_replicate] at e
    split at e
    · cases e
    · cases e
def clOf (look : Str → Option Addr) : List (Str × NameKind) → List (Str × Addr) → List (Str × Addr)
  | [], acc => acc
  | (n, k) :: r, acc => if (k == NameKind.free) = true then (match look n with | some a => clOf look r ((n, a) :: acc) | none => clOf look r acc) else clOf look r acc
theorem closure_is {env : Env} : ∀ (names : List (Str × NameKind)) (acc : List (Str × Addr)), (∀ x ∈ names, x.2 = .free → ∃ a, env.cells.lookup x.1 = some a) →
    (forIn names acc (fun (x : Str × NameKind) (r : List (Str × Addr)) => match x with | (name, kind) => if (kind == NameKind.free) = true then do let c ← cellOf env name; pure (ForInStep.yield ((name, c) :: r)) else pure (ForInStep.yield r)) : Sem (List (Str × Addr))) = pure (clOf (env.cells.lookup ·) names acc)
  | [], acc, _ => rfl
  | (n, k) :: r, acc, h => by
    rw [List.forIn_cons]
    dsimp only
    unfold clOf
    by_cases hk : (k == NameKind.free) = true
    · obtain ⟨a, ha⟩ := h (n, k) List.mem_cons_self (by simpa using hk)
      have ha' : env.cells.lookup n = some a := ha
      rw [if_pos hk, if_pos hk, ha']
      have hc : cellOf env n = pure a := by unfold cellOf; rw [ha']
      rw [hc]
      exact closure_is r _ fun x hx => h x (List.mem_cons_of_mem _ hx)
    · rw [if_neg hk, if_neg hk]
      exact closure_is r _ fun x hx => h x (List.mem_cons_of_mem _ hx)
theorem clOf_sub {look : Str → Option Addr} : ∀ (names : List (Str × NameKind)) (acc : List (Str × Addr)), (∀ x c, acc.lookup x = some c → look x = some c) → ∀ x c, (clOf look names acc).lookup x = some c → look x = some c
  | [], acc, h => h
  | (n, k) :: r, acc, h => by
    unfold clOf
    by_cases hk : (k == NameKind.free) = true
    · rw [if_pos hk]
      cases e : look n with
      | none => exact clOf_sub r acc h
      | some a =>
        refine clOf_sub r _ fun x c q => ?_
        rw [List.lookup_cons] at q
        by_cases hx : (x == n) = true
        · rw [hx] at q
          have : x = n := by simpa using hx
          rw [this, e]
          exact q
        · have hx' : (x == n) = false := by simpa using hx
          rw [hx'] at q
          exact h x c q
    · rw [if_neg hk]
      exact clOf_sub r acc h
theorem clOf_keeps {look : Str → Option Addr} : ∀ (names : List (Str × NameKind)) (acc : List (Str × Addr)) (x : Str), (∃ c, acc.lookup x = some c) → ∃ c, (clOf look names acc).lookup x = some c
  | [], _, _, h => h
  | (n, k) :: r, acc, x, h => by
    unfold clOf
    by_cases hk : (k == NameKind.free) = true
    · rw [if_pos hk]
      cases e : look n with
      | none => exact clOf_keeps r acc x h
      | some a =>
        refine clOf_keeps r _ x ?_
        rw [List.lookup_cons]
        cases hx : x == n with
        | true => exact ⟨a, rfl⟩
        | false => exact h
    · rw [if_neg hk]
      exact clOf_keeps r acc x h
theorem clOf_has {look : Str → Option Addr} : ∀ (names : List (Str × NameKind)) (acc : List (Str × Addr)) (x : Str), (x, NameKind.free) ∈ names → (∃ a, look x = some a) → ∃ c, (clOf look names acc).lookup x = some c
  | [], _, _, h, _ => by cases h
  | (n, k) :: r, acc, x, h, ha => by
    unfold clOf
    rcases List.mem_cons.mp h with e | e
    · obtain ⟨a, ha⟩ := ha
      have e1 : x = n := congrArg Prod.fst e
      have e2 : k = NameKind.free := (congrArg Prod.snd e).symm
      subst e1 e2
      rw [if_pos (by decide), ha]
      refine clOf_keeps r _ x ⟨a, ?_⟩
      rw [List.lookup_cons]
      simp
    · by_cases hk : (k == NameKind.free) = true
      · rw [if_pos hk]
        cases e2 : look n with
        | none => exact clOf_has r acc x e ha
        | some a => exact clOf_has r _ x e ha
      · rw [if_neg hk]
        exact clOf_has r acc x e ha
theorem clOf_mem {look : Str → Option Addr} : ∀ (names : List (Str × NameKind)) (acc : List (Str × Addr)) (x : Str) (c : Addr), (clOf look names acc).lookup x = some c → (x, NameKind.free) ∈ names ∨ acc.lookup x = some c
  | [], _, _, _, h => .inr h
  | (n, k) :: r, acc, x, c, h => by
    unfold clOf at h
    by_cases hk : (k == NameKind.free) = true
    · rw [if_pos hk] at h
      cases e : look n with
      | none => rw [e] at h; exact (clOf_mem r acc x c h).imp (List.mem_cons_of_mem _) id
      | some a =>
        rw [e] at h
        rcases clOf_mem r _ x c h with z | z
        · exact .inl (List.mem_cons_of_mem _ z)
        · rw [List.lookup_cons] at z
          cases hx : x == n with
          | true =>
            have e1 : x = n := by simpa using hx
            have e2 : k = .free := by simpa using hk
            rw [e1, e2]
            exact .inl List.mem_cons_self
          | false => rw [hx] at z; exact .inr z
    · rw [if_neg hk] at h
      exact (clOf_mem r acc x c h).imp (List.mem_cons_of_mem _) id
theorem relabel_of {env : Env} : ∀ {names : List (Str × NameKind)} {x : Str} {k : NameKind},
    (names.map fun (n, k) => if (k == NameKind.free && env.scope.kind == .function && env.kindOf n == some .cell) then (n, NameKind.cell) else (n, k)).lookup x = some k →
    (k = .cell ∨ k = .free) → names.lookup x = some .cell ∨ (x, NameKind.free) ∈ names
  | [], _, _, h, _ => by simp at h
  | (n, j) :: r, x, k, h, hk => by
    rw [List.map_cons, List.lookup_cons] at h
    rw [List.lookup_cons]
    by_cases hj : (j == NameKind.free && env.scope.kind == .function && env.kindOf n == some .cell) = true
    · simp only [hj, if_true] at h
      by_cases hx : (x == n) = true
      · have e : x = n := by simpa using hx
        have ej : j = .free := by
          rw [Bool.and_eq_true, Bool.and_eq_true] at hj
          simpa using hj.1.1
        rw [e, ← ej]
        exact .inr List.mem_cons_self
      · have hx' : (x == n) = false := by simpa using hx
        rw [hx'] at h ⊢
        exact (relabel_of h hk).imp id (List.mem_cons_of_mem _)
    · simp only [hj] at h
      by_cases hx : (x == n) = true
      · have e : x = n := by simpa using hx
        rw [e] at h
        simp at h
        subst h
        rw [hx]
        rcases hk with q | q
        · rw [q]; exact .inl rfl
        · rw [e, ← q]
          exact .inr List.mem_cons_self
      · have hx' : (x == n) = false := by simpa using hx
        simp [hx'] at h
        rw [hx']
        exact (relabel_of (by simpa using h) hk).imp id (List.mem_cons_of_mem _)
def st0 (nt : Nat) (ix : List Nat) (σ : St) : St := List.replicate nt none ++ ix.map fun j => (σ[j]?).join
theorem CompSc.free {X : Cx} {scope : Scope} {N : List Str} {nt : Nat} {ix : List Nat} (kind : scope.kind = .function) (cell : ∀ y ∈ scope.names, y.2 = .cell → (y.1, NameKind.free) ∉ scope.names)
    (names : ∀ y ∈ scope.names, y.2 = .local → scope.names.lookup y.1 = some .local) (hf : ∀ y ∈ scope.names, y.2 = .free → X.env.kindOf y.1 = some .cell)
    (hl : N.length = nt + ix.length) (hx : ∀ (k j : Nat), ix[k]? = some j → ∃ x, N[nt + k]? = some x ∧ X.N[j]? = some x ∧ (x, NameKind.free) ∈ scope.names ∧ (relabel scope X.env).names.lookup x = some .cell) (ok : X.Ok) :
    ∃ cl, CompSc X scope cl N (st0 nt ix) := by
  have hcl : ∀ y ∈ scope.names, y.2 = .free → ∃ a, X.env.cells.lookup y.1 = some a := fun y hy hk => ok.has y.1 (.inl (hf y hy hk))
  refine ⟨clOf (X.env.cells.lookup ·) scope.names [], ?_, kind, fun y hy hk => ?_, names, clOf_sub scope.names [] (fun x c e => by simp at e), fun x h => ?_, fun σ => ?_, fun σ i x v e1 e2 e3 => ?_⟩
  · have z := closure_is scope.names [] hcl
    unfold closureFor
    dsimp only
    rw [z]
    rfl
  · cases q : (clOf (X.env.cells.lookup ·) scope.names []).lookup y.1 with
    | none => rfl
    | some c =>
      rcases clOf_mem _ _ _ _ q with z | z
      · exact absurd z (cell y hy hk)
      · cases z
  · have hm : scope.names.lookup x = some .cell ∨ (x, NameKind.free) ∈ scope.names := by
      rcases h with h | h
      · exact relabel_of h (.inl rfl)
      · exact relabel_of h (.inr rfl)
    exact hm.imp id fun hm => clOf_has scope.names [] x hm (hcl _ hm rfl)
  · unfold st0
    rw [List.length_append, List.length_replicate, List.length_map, hl]
  · unfold st0 at e2
    by_cases hi : i < nt
    · rw [List.getElem?_append_left (by rw [List.length_replicate]; exact hi), List.getElem?_replicate] at e2
      split at e2
      · cases e2
      · cases e2
    · rw [List.getElem?_append_right (by rw [List.length_replicate]; omega), List.length_replicate, List.getElem?_map] at e2
      cases ej : ix[i - nt]? with
      | none => rw [ej] at e2; cases e2
      | some j =>
        rw [ej] at e2
        have e2' : (σ[j]?).join = some v := Option.some.inj e2
        obtain ⟨x', n1, n2, n3, n4⟩ := hx (i - nt) j ej
        rw [show nt + (i - nt) = i by omega, e1] at n1
        cases n1
        obtain ⟨c, hc⟩ := clOf_has (look := (X.env.cells.lookup ·)) scope.names [] x n3 (hcl _ n3 rfl)
        refine ⟨j, c, n2, ?_, hf _ n3 rfl, .inl n4, hc⟩
        cases es : σ[j]? with
        | none => rw [es] at e2'; cases e2'
        | some o => rw [es] at e2'; rw [show o = some v from e2']
def Kp (a b : St) : Prop := ∀ (i : Nat) (v : V), a[i]? = some (some v) → b[i]? = some (some v)
theorem Kp.rep (n : Nat) (b : St) : Kp (List.replicate n none) b := fun i v e => by
  rw [List.getElem?_replicate] at e
  split at e
  · cases e
  · cases e
def tComp (wi : TI) (g : TG) (te : TE) (σ0 : St → St) : TE := fun σ H Q => wi σ H fun J H1 => ∀ l, H1 l = none → ∃ W : Nat → Nat → List V → Hp → Prop, (∃ m, W 0 m [] (upd H1 l (.lst []))) ∧
  ∀ i m ys H2, W i m ys H2 → (J.stop i H2 ∧ Q (.ref l) H2) ∨
    (J.go i H2 ∧ ∀ x H3, J.yld i H2 x H3 → g x (σ0 σ) H3 fun σ4 H4 => Kp (σ0 σ) σ4 ∧ te σ4 H4 fun y H5 => H5 l = some (.lst ys) ∧ ys.length < sizeLine ∧ ∃ m', m' < m ∧ W (i + 1) m' (ys ++ [y]) (upd H5 l (.lst (ys ++ [y]))))
theorem Inv.unpin {X : Cx} {pins : List (Addr × Obj)} {σ : St} {H : Hp} {s : Shared} (I : Inv X pins σ H s) : Inv X [] σ H s := I.pins_of fun _ hp => nomatch hp
theorem HOk.but {P : Program} {w : World} {H : Hp} {h h' : Heap} {C : Addr} (x : HOk P w H h) (hC : H C = none) (sb : Heap.SameBut C h h') : HOk P w H h' := fun b u e =>
  (x b u e).stay (fun c v hc q => (sb.2 c (by
    rintro rfl
    rcases hc with z | z
    · rw [z, e] at hC; cases hC
    · rw [hC] at z; cases z)).trans q) (fun _ q => q) fun _ _ q => q
section
variable {X : Cx} {pins : List (Addr × Obj)} {σ : St} {H : Hp} {s : Shared} {scope : Scope} {cl : List (Str × Addr)} {N : List Str} {σ0 : St → St} {fp : List Addr} {h₁ : Heap} {m : Str → Option Value} {E : Value → Shared → Prop}
theorem inv_comp {cl' : List (Str × Addr)} (S : CompSc X scope cl N σ0) (G : CompCl cl cl' scope s.heap.objs.size h₁) (I : Inv X pins σ H s) (hf : ∀ b ∈ fp, FpOk X pins H b ∧ b < s.heap.objs.size) (kp : ∀ b o, s.heap.get? b = some o → h₁.get? b = some o) (hns : h₁.Ns s.heap.objs.size m) (t' : Nat) (ht : s.toks ≤ t' := by first | exact Nat.le_refl _ | exact Nat.le_succ _ | assumption | omega) :
    Inv (cxComp X scope cl' s.heap.objs.size N s H fp (X.pn ++ pins) E) [] (σ0 σ) H { s with heap := h₁, toks := t' } := by
  have nstk : ∀ b, b ≠ X.env.locals → b ∉ X.fs → b ∉ frs X.stack := fun b h1 h2 z => by
    rcases List.mem_cons.mp (I.stkSub b z) with q | q
    · exact h1 q
    · exact h2 q
  have cab : ∀ x c, cl.lookup x = some c → c < s.heap.objs.size := fun x c e => by
    obtain ⟨v, o, ho, _⟩ := I.cell x c (S.sub x c e)
    exact Heap.lt_size ho
  refine ⟨⟨I.mod, S.kind, I.ok.glob, I.ok.blt, Nat.le_refl _, fun x y c a b => ?_, fun x h => (S.has x h).elim (G.own x) fun ⟨c, e⟩ => ⟨c, G.keep x c e⟩, fun x c z e => ?_, I.ok.hd, I.ok.frames, .inl rfl, fun b hb => ?_, I.bs, Nat.le_trans I.ok.bsz I.sz, fun b o e hb => ?_, fun b hb => ?_, I.stack, I.stkFree, I.tk⟩,
    rfl, I.bare, Un.kept kp, ⟨m, hns, fun i x v e1 e2 e3 => ?_⟩, fun x c e => ?_, I.hok.fresh (Nat.le_refl _), fun x c e => (G.look x c e).elim (fun z => I.hok.fresh (Nat.le_of_lt z.1)) fun z => I.freeC x c (S.sub x c z), fun p hp => ?_, I.hok.kept kp, S.len σ, ht⟩
  · by_cases hc : s.heap.objs.size < c
    · exact G.inj x y c hc a b fun z e => Nat.lt_asymm hc (cab z c e)
    · exact I.ok.inj x y c (S.sub x c ((G.look x c a).elim (fun z => absurd z.1 hc) id)) (S.sub y c ((G.look y c b).elim (fun z => absurd z.1 hc) id))
  · rcases G.look x c e with q | q
    · exact Nat.le_of_lt q.1
    · have z2 : (scope.names.lookup x == some NameKind.cell) = true := z
      have z' : scope.names.lookup x = some .cell := by simpa using z2
      rw [S.cell _ (mem_of_lookup z') rfl] at q
      cases q
  · obtain ⟨⟨_, _, _, _, f4, _⟩, lt⟩ := hf b hb
    exact ⟨Nat.ne_of_lt lt, fun x c e => (G.look x c e).elim (fun z => Nat.ne_of_gt (Nat.lt_trans lt z.1)) fun z => f4 x c (S.sub x c z)⟩
  · obtain ⟨⟨f0, _, _, f3, _⟩, _⟩ := hf b hb
    rcases f3 with z | z
    · exact I.ok.noex b o e z
    · exact absurd (Nat.lt_of_lt_of_le (Heap.lt_size e) (Nat.le_trans I.ok.bsz z)) (Nat.lt_irrefl _)
  · obtain ⟨⟨_, f1, f2, _⟩, _⟩ := hf b hb
    exact nstk b f1 f2
  · obtain ⟨j, c, n1, n2, n3, n4, n5⟩ := S.fv σ i x v e1 e2 e3
    obtain ⟨mX, _, hl⟩ := I.loc
    obtain ⟨u, r, l⟩ := hl j x v n1 n2 (.inr (.inl n3))
    refine ⟨u, r, .inr ⟨n4, c, G.keep x c n5, ?_⟩⟩
    rcases l with ⟨k, _⟩ | ⟨_, c', ec, o, ho, hd⟩
    · have k' : X.env.scope.names.lookup x = some .local := k
      have n3' : X.env.scope.names.lookup x = some .cell := n3
      rw [k'] at n3'; cases n3'
    · have q := S.sub x c n5
      rw [q] at ec; cases ec
      exact ⟨o, kp _ _ ho, hd⟩
  · rcases G.look x c e with z | z
    · exact ⟨none, z.2⟩
    · obtain ⟨v, o, ho, hd⟩ := I.cell x c (S.sub x c z)
      exact ⟨v, o, kp _ _ ho, hd⟩
  · have hp' : p ∈ X.pn ++ pins := by
      rcases List.mem_append.mp hp with z | z
      · exact z
      · cases z
    obtain ⟨a, b, c, d, e⟩ := I.pin p hp'
    exact ⟨kp _ _ a, b, Nat.ne_of_lt (Heap.lt_size a), nstk _ c d, e⟩
end
end L2

namespace L2
open PySem PySem.Spec PyProof.Rows
/-! ### what zip and enumerate may be made of: a list, a tuple, a text -/
inductive Cp where
  | lst (a : Addr) | tup (a : Addr) | txt (x : Str)
def signsV (x : Str) : List V := x.cps.toList.map fun c => V.str ⟨#[c]⟩
def Cp.val : Cp → V
  | .lst a => .ref a
  | .tup a => .ref a
  | .txt x => .str x
def Cp.at (K : PySem.W.Frag) (H : Hp) : Cp → List V → Prop
  | .lst a => SqL K H a
  | .tup a => SqT K H a
  | .txt x => fun xs => xs = signsV x
def Cp.itr (h : Heap) (it : Addr) (i : Nat) : Cp → Prop
  | .lst a => h.IsListIter it a i
  | .tup a => h.IsTupleIter it a i
  | .txt x => ∃ t, h.IsStrIter it (strIterType x) x t i
def Cp.src (h : Heap) : Cp → List V → Prop
  | .lst a => fun xs => ∃ its, Vals xs its ∧ h.IsList a its.toArray
  | .tup a => fun xs => ∃ its, Vals xs its ∧ h.IsTuple a its.toArray
  | .txt x => fun xs => xs = signsV x
def Cp.off (b : Addr) : Cp → Prop
  | .lst a => a ≠ b
  | .tup a => a ≠ b
  | .txt _ => True
section
variable {X : Cx} {pins : List (Addr × Obj)} {σ : St} {H : Hp} {s : Shared} {c d : Cp} {xs ys : List V}
theorem Cp.src_of (I : Inv X pins σ H s) (h : c.at X.K H xs) : c.src s.heap xs := by
  cases c with
  | lst a => obtain ⟨its, r, p, _⟩ := I.list h; exact ⟨its, r, p.isList⟩
  | tup a => obtain ⟨its, r, p, _⟩ := I.tuple h; exact ⟨its, r, p⟩
  | txt x => exact h
theorem Cp.at_inj (I : Inv X pins σ H s) (h : c.at X.K H xs) (h' : c.at X.K H ys) : xs = ys := by
  cases c with
  | lst a => exact I.list_inj h h'
  | tup a => exact I.tuple_inj h h'
  | txt x => exact (show xs = signsV x from h).trans (show ys = signsV x from h').symm
theorem Cp.off_of {h : Heap} {b : Addr} {o : Obj} {T : String} (hs : c.src h xs) (hb : h.get? b = some o) (hc : o.cls = .type T) (n1 : T ≠ "list") (n2 : T ≠ "tuple") : c.off b := by
  cases c with
  | lst a =>
    obtain ⟨its, _, o', ho, hc', _⟩ := hs
    intro e
    rw [e, hb] at ho
    cases ho
    rw [hc] at hc'
    injection hc' with q
    exact n1 q
  | tup a =>
    obtain ⟨its, _, o', ho, hc', _⟩ := hs
    intro e
    rw [e, hb] at ho
    cases ho
    rw [hc] at hc'
    injection hc' with q
    exact n2 q
  | txt x => trivial
theorem Cp.off_new {h : Heap} {b : Addr} (hs : c.src h xs) (hb : h.objs.size ≤ b) : c.off b := by
  cases c with
  | lst a =>
    obtain ⟨its, _, o', ho, _⟩ := hs
    exact Nat.ne_of_lt (Nat.lt_of_lt_of_le (Heap.lt_size ho) hb)
  | tup a =>
    obtain ⟨its, _, o', ho, _⟩ := hs
    exact Nat.ne_of_lt (Nat.lt_of_lt_of_le (Heap.lt_size ho) hb)
  | txt x => trivial
theorem Cp.src_ext {h h' : Heap} {b : Addr} (hs : c.src h xs) (hx : Heap.ExtBut b h h') (ho : c.off b) : c.src h' xs := by
  cases c with
  | lst a => obtain ⟨its, r, p⟩ := hs; exact ⟨its, r, p.extBut hx ho⟩
  | tup a => obtain ⟨its, r, p⟩ := hs; exact ⟨its, r, p.extBut hx ho⟩
  | txt x => exact hs
theorem Cp.src_keep {h h' : Heap} (hs : c.src h xs) (hx : ∀ b o, h.get? b = some o → h'.get? b = some o) : c.src h' xs := by
  cases c with
  | lst a => obtain ⟨its, r, o, ho, q⟩ := hs; exact ⟨its, r, o, hx _ _ ho, q⟩
  | tup a => obtain ⟨its, r, o, ho, q⟩ := hs; exact ⟨its, r, o, hx _ _ ho, q⟩
  | txt x => exact hs
theorem Cp.itr_obj {h : Heap} {it : Addr} {i : Nat} (q : c.itr h it i) : ∃ o T vs, h.get? it = some o ∧ o.cls = .type T ∧ o.data = .fields vs ∧ T ≠ "list" ∧ T ≠ "tuple" := by
  cases c with
  | lst a => obtain ⟨o, ho, hc, hd⟩ := q; exact ⟨o, _, _, ho, hc, hd, by decide, by decide⟩
  | tup a => obtain ⟨o, ho, hc, hd⟩ := q; exact ⟨o, _, _, ho, hc, hd, by decide, by decide⟩
  | txt x =>
    obtain ⟨t, o, ho, hc, hd⟩ := q
    refine ⟨o, _, _, ho, hc, hd, ?_, ?_⟩
    · unfold strIterType; split <;> decide
    · unfold strIterType; split <;> decide
theorem Cp.itr_at {h h' : Heap} {it : Addr} {i : Nat} (q : c.itr h it i) (e : ∀ o, h.get? it = some o → h'.get? it = some o) : c.itr h' it i := by
  cases c with
  | lst a => obtain ⟨o, ho, r⟩ := q; exact ⟨o, e _ ho, r⟩
  | tup a => obtain ⟨o, ho, r⟩ := q; exact ⟨o, e _ ho, r⟩
  | txt x => obtain ⟨t, o, ho, r⟩ := q; exact ⟨t, o, e _ ho, r⟩
end
section
variable {prog : Program} {w : World} {A : Around} {E : Value → Shared → Prop} {s : Shared} {c d : Cp} {xs ys : List V}
theorem nextOf_tuple_item {it t : Addr} {i : Nat} {items} {x : Value} {Q : Value → Shared → Prop} (hit : s.heap.IsTupleIter it t i)
    (ht : s.heap.IsTuple t items) (hx : items[i]? = some x)
    (hQ : ∀ h', h'.IsTupleIter it t (i + 1) → Heap.SameBut it s.heap h' → Q x { s with heap := h' }) :
    wpAny (model prog w) A (Builtin.SmallTypes.nextOf (.ref it)) Q E s := by
  obtain ⟨o, ho, hc, hd⟩ := id hit
  obtain ⟨ol, hol, _, nl, hdl⟩ := ht
  unfold Builtin.SmallTypes.nextOf
  refine wpAny_bind (wpAny_callSpecial?_slot (name := Str.ofString "__next__") hit.typeIs F.slot_tuple_iterator_next
    (wpAny_call_entry F.slot_tuple_iterator_next hit.typeIs F.entry_tuple_iterator_next ?_ (F.args_tuple_iterator_next_1 _)))
  show wpAny _ _ (field (.ref it) 0 >>= _) _ _ s
  refine wpAny_bind (wpAny_field ho hd (x := .ref t) rfl ?_)
  show wpAny _ _ (if (Value.ref t == Value.none) = true then _ else _) _ _ s
  rw [if_neg (show ¬ ((Value.ref t == Value.none) = true) from Bool.false_ne_true)]
  show wpAny _ _ (field (.ref it) 1 >>= _) _ _ s
  refine wpAny_bind (wpAny_field ho hd (x := .int i 0) rfl ?_)
  show wpAny _ _ (seqItems? (.ref t) >>= _) _ _ s
  refine wpAny_bind (wpAny_seqItems hol hdl ?_)
  simp only [Int.toNat_natCast, hx]
  refine wpAny_bind (wpAny_setField ho hd (by simp) (wpAny_pure ⟨x, rfl, wpAny_pure (hQ _ ?_ (Heap.SameBut.update ..))⟩))
  exact ⟨_, Heap.get?_update_self _ ho (Obj.isFreed_of_fields (Obj.data_mapFields hd _)), (Obj.cls_mapFields ..).trans hc, by
    rw [Obj.data_mapFields hd]; simp [rawInt]⟩
theorem nextOf_tuple_end {it t : Addr} {i : Nat} {items} {Q : Value → Shared → Prop} (hh : A.handled = none)
    (hit : s.heap.IsTupleIter it t i) (ht : s.heap.IsTuple t items) (hx : items[i]? = none)
    (hE : ∀ h' e, Heap.ExtBut it s.heap h' → (∃ o, h'.get? e = some o ∧ o.cls = .type "StopIteration") → E (.ref e) { s with heap := h' }) :
    wpAny (model prog w) A (Builtin.SmallTypes.nextOf (.ref it)) Q E s := by
  obtain ⟨o, ho, hc, hd⟩ := id hit
  obtain ⟨ol, hol, _, nl, hdl⟩ := ht
  unfold Builtin.SmallTypes.nextOf
  refine wpAny_bind (wpAny_callSpecial?_slot (name := Str.ofString "__next__") hit.typeIs F.slot_tuple_iterator_next
    (wpAny_call_entry F.slot_tuple_iterator_next hit.typeIs F.entry_tuple_iterator_next ?_ (F.args_tuple_iterator_next_1 _)))
  show wpAny _ _ (field (.ref it) 0 >>= _) _ _ s
  refine wpAny_bind (wpAny_field ho hd (x := .ref t) rfl ?_)
  show wpAny _ _ (if (Value.ref t == Value.none) = true then _ else _) _ _ s
  rw [if_neg (show ¬ ((Value.ref t == Value.none) = true) from Bool.false_ne_true)]
  show wpAny _ _ (field (.ref it) 1 >>= _) _ _ s
  refine wpAny_bind (wpAny_field ho hd (x := .int i 0) rfl ?_)
  show wpAny _ _ (seqItems? (.ref t) >>= _) _ _ s
  refine wpAny_bind (wpAny_seqItems hol hdl ?_)
  simp only [Int.toNat_natCast, hx]
  refine wpAny_bind (wpAny_rule (wpAny_bind (wpAny_setField ho hd (by simp) ?_)))
  show wpAny _ _ (newExc (.type "StopIteration") [] >>= _) _ _ _
  refine wpAny_bind ?_
  simp only [newExc, newTuple]
  refine wpAny_bind (wpAny_newObj_type ?_ (by size_fits))
  refine wpAny_bind (m := firstArgMember _ _) (wpAny_of_eq (a := Value.none) (by first | rfl | (simp only [firstArgMember]; rfl)) ?_)
  refine wpAny_newObj_type ?_ (by size_fits)
  simp only [raiseNew]
  refine wpAny_bind (wpAny_handled ?_)
  first | rw [show A.in1.handled = none from hh] | rw [hh]
  refine wpAny_bind (wpAny_pure (wpAny_throw ?_))
  exact hE _ _ (((Heap.SameBut.update ..).extBut.push _).push _) ⟨_, Heap.get?_push_size _ rfl, rfl⟩
theorem signs_get {x : Str} {i : Nat} {v : V} (h : (signsV x)[i]? = some v) : ∃ k, x.cps[i]? = some k ∧ v = .str ⟨#[k]⟩ := by
  unfold signsV at h
  rw [List.getElem?_map] at h
  cases e : x.cps.toList[i]? with
  | none => rw [e] at h; cases h
  | some k =>
    rw [e] at h
    exact ⟨k, by simpa using e, (Option.some.inj h).symm⟩
theorem signs_end {x : Str} {i : Nat} (h : (signsV x)[i]? = none) : x.cps[i]? = none := by
  unfold signsV at h
  rw [List.getElem?_map] at h
  cases e : x.cps.toList[i]? with
  | none => simpa using e
  | some k => rw [e] at h; cases h
theorem Cp.item {it : Addr} {i : Nat} {x : V} {Q : Value → Shared → Prop} (hit : c.itr s.heap it i) (hs : c.src s.heap xs) (hx : xs[i]? = some x)
    (hQ : ∀ u h' tk, RelV x u → c.itr h' it (i + 1) → Heap.SameBut it s.heap h' → Q u { s with heap := h', toks := tk }) :
    wpAny (model prog w) A (Builtin.SmallTypes.nextOf (.ref it)) Q E s := by
  cases c with
  | lst a =>
    obtain ⟨its, r, p⟩ := hs
    obtain ⟨u, hu, ru⟩ := r.get hx
    exact wpAny_nextOf_list_item hit p (x := u) (by simpa using hu) fun h' q sb => hQ u h' s.toks ru q sb
  | tup a =>
    obtain ⟨its, r, p⟩ := hs
    obtain ⟨u, hu, ru⟩ := r.get hx
    exact nextOf_tuple_item hit p (x := u) (by simpa using hu) fun h' q sb => hQ u h' s.toks ru q sb
  | txt x' =>
    obtain ⟨t, q⟩ := hit
    rw [show xs = signsV x' from hs] at hx
    obtain ⟨k, hk, rfl⟩ := signs_get hx
    unfold strIterType at q
    by_cases ha : (x'.cps.all (· < 128)) = true
    · rw [if_pos ha] at q
      exact wpAny_nextOf_ascii_item q hk fun h' q' sb => hQ _ h' _ ⟨_, rfl⟩ ⟨t, by unfold strIterType; rw [if_pos ha]; exact q'⟩ sb
    · rw [if_neg ha] at q
      exact wpAny_nextOf_wide_item q hk fun h' q' sb => hQ _ h' _ ⟨_, rfl⟩ ⟨t, by unfold strIterType; rw [if_neg ha]; exact q'⟩ sb
theorem Cp.fin {it : Addr} {i : Nat} {Q : Value → Shared → Prop} (hh : A.handled = none) (hit : c.itr s.heap it i) (hs : c.src s.heap xs) (hx : xs[i]? = none)
    (hE : ∀ h' e, Heap.ExtBut it s.heap h' → (∃ o, h'.get? e = some o ∧ o.cls = .type "StopIteration") → E (.ref e) { s with heap := h' }) :
    wpAny (model prog w) A (Builtin.SmallTypes.nextOf (.ref it)) Q E s := by
  cases c with
  | lst a =>
    obtain ⟨its, r, p⟩ := hs
    exact wpAny_nextOf_list_end hh hit p (by simpa using r.none_of hx) hE
  | tup a =>
    obtain ⟨its, r, p⟩ := hs
    exact nextOf_tuple_end hh hit p (by simpa using r.none_of hx) hE
  | txt x' =>
    obtain ⟨t, q⟩ := hit
    rw [show xs = signsV x' from hs] at hx
    have hk := signs_end hx
    unfold strIterType at q
    by_cases ha : (x'.cps.all (· < 128)) = true
    · rw [if_pos ha] at q
      exact wpAny_nextOf_ascii_end hh q hk hE
    · rw [if_neg ha] at q
      exact wpAny_nextOf_wide_end hh q hk hE
/-! ### zip of two -/
structure ZipOff (z TI TO i1 i2 : Addr) : Prop where
  TIz : TI ≠ z
  TOz : TO ≠ z
  i1z : i1 ≠ z
  i2z : i2 ≠ z
  TITO : TI ≠ TO
  TIi1 : TI ≠ i1
  TIi2 : TI ≠ i2
  TOi1 : TO ≠ i1
  TOi2 : TO ≠ i2
  i12 : i1 ≠ i2
structure ZipSt (h : Heap) (z TI TO i1 i2 : Addr) (c d : Cp) (f0 : Value) (i : Nat) : Prop where
  zz : IsZip h z TI TO f0
  ti : IsPair h TI (.ref i1) (.ref i2)
  to : ∃ a b, IsPair h TO a b
  h1 : c.itr h i1 i
  h2 : d.itr h i2 i
  /-- its own pair is none of the two -/
  c1 : c.off TO
  c2 : d.off TO
theorem zip_item {z TI TO i1 i2 : Addr} {i : Nat} {x y : V} {Q : Option Value → Shared → Prop} (D : ZipOff z TI TO i1 i2) (Z : ZipSt s.heap z TI TO i1 i2 c d .none i)
    (sc : c.src s.heap xs) (sd : d.src s.heap ys) (hx : xs[i]? = some x) (hy : ys[i]? = some y)
    (hQ : ∀ u v h' tk, RelV x u → RelV y v → ZipSt h' z TI TO i1 i2 c d (rawInt s.heap.objs.size) (i + 1) → IsPair h' s.heap.objs.size u v →
      (∀ b o, b ≠ z → b ≠ TO → b ≠ i1 → b ≠ i2 → s.heap.get? b = some o → h'.get? b = some o) → Q (some (.ref s.heap.objs.size)) { s with heap := h', toks := tk }) :
    wpAny (model prog w) A (pyNext (.ref z)) Q E s := by
  obtain ⟨hz, hTI, ⟨a, b, hTO⟩, h1, h2, c1, c2⟩ := id Z
  have hT : s.TypeIs (.ref z) "zip" := ⟨_, hz, rfl⟩
  obtain ⟨oi1, T1, _, hi1, ci1, _, n11, n12⟩ := Cp.itr_obj h1
  obtain ⟨oi2, T2, _, hi2, ci2, _, n21, n22⟩ := Cp.itr_obj h2
  have cz : c.off z := Cp.off_of sc hz rfl (by decide) (by decide)
  have dz : d.off z := Cp.off_of sd hz rfl (by decide) (by decide)
  have ci : c.off i1 := Cp.off_of sc hi1 ci1 n11 n12
  have di : d.off i1 := Cp.off_of sd hi1 ci1 n11 n12
  unfold pyNext
  refine wpAny_bind (wpAny_attempt (wpAny_callSpecial?_slot (name := Str.ofString "__next__") hT F.slot_zip_next
    (wpAny_call_entry F.slot_zip_next hT F.entry_zip_next ?_ (F.args_zip_next_1 _))))
  show wpAny _ _ (field (.ref z) 2 >>= _) _ _ _
  refine wpAny_bind (wpAny_field hz rfl (x := .bool false) rfl ?_)
  show wpAny _ _ (field (.ref z) 3 >>= _) _ _ _
  refine wpAny_bind (wpAny_field hz rfl (x := .ref TI) rfl ?_)
  refine wpAny_bind (wpAny_seqItems hTI rfl ?_)
  show wpAny _ _ (Builtin.SmallTypes.ownedTupleIsFree (.ref z) >>= _) _ _ _
  refine wpAny_bind ?_
  unfold Builtin.SmallTypes.ownedTupleIsFree
  refine wpAny_bind (wpAny_field hz rfl (x := .none) rfl (wpAny_pure ?_))
  simp only [if_true]
  refine wpAny_bind (wpAny_rule ?_)
  refine wpAny_bind (wpAny_field hz rfl (x := .ref TO) rfl ?_)
  refine wpAny_bind (wpAny_setField_rec hz (by simp) fun h₁ hz₁ hs₁ => ?_)
  replace hz₁ : IsZip h₁ z TI TO .ellipsis := hz₁
  refine wpAny_bind ?_
  simp only [List.zipIdx_cons, List.zipIdx_nil, List.forIn_cons, List.forIn_nil]
  refine wpAny_bind (wpAny_bind (wpAny_onRaise ?_))
  show wpAny _ _ (Builtin.SmallTypes.nextOf (.ref i1) >>= _) _ _ _
  refine wpAny_bind (Cp.item (c := c) (Cp.itr_at h1 fun o e => hs₁.extBut _ _ D.i1z e) (Cp.src_ext sc hs₁.extBut cz) hx fun u h₂ tk₂ ru h1₂ hs₂ => wpAny_pure ?_)
  have hTO₂ : IsPair h₂ TO a b := hs₂.extBut _ _ D.TOi1 (hs₁.extBut _ _ D.TOz hTO)
  refine wpAny_bind (wpAny_seqItems hTO₂ rfl ?_)
  refine wpAny_bind (wpAny_updateSeq_pair hTO₂ fun h₃ hTO₃ hs₃ => ?_)
  replace hTO₃ : IsPair h₃ TO u b := hTO₃
  refine wpAny_bind (wpAny_letGo (wpAny_pure ?_))
  refine wpAny_bind (wpAny_bind (wpAny_onRaise ?_))
  show wpAny _ _ (Builtin.SmallTypes.nextOf (.ref i2) >>= _) _ _ _
  refine wpAny_bind (Cp.item (c := d) (Cp.itr_at h2 fun o e => hs₃.extBut _ _ D.TOi2.symm (hs₂.extBut _ _ D.i12.symm (hs₁.extBut _ _ D.i2z e))) (Cp.src_ext (Cp.src_ext (Cp.src_ext sd hs₁.extBut dz) hs₂.extBut di) hs₃.extBut c2) hy fun v h₄ tk₄ rv h2₄ hs₄ => wpAny_pure ?_)
  have hTO₄ : IsPair h₄ TO u b := hs₄.extBut _ _ D.TOi2 hTO₃
  refine wpAny_bind (wpAny_seqItems hTO₄ rfl ?_)
  refine wpAny_bind (wpAny_updateSeq_pair hTO₄ fun h₅ hTO₅ hs₅ => ?_)
  replace hTO₅ : IsPair h₅ TO u v := hTO₅
  refine wpAny_bind (wpAny_letGo (wpAny_pure (wpAny_pure ?_)))
  refine wpAny_bind (wpAny_seqItems hTO₅ rfl ?_)
  refine wpAny_bind (wpAny_newTuple ?_)
  have hsz : h₅.objs.size = s.heap.objs.size := by rw [hs₅.1, hs₄.1, hs₃.1, hs₂.1, hs₁.1]
  have hz₅ : IsZip h₅ z TI TO .ellipsis := hs₅.extBut _ _ D.TOz.symm (hs₄.extBut _ _ D.i2z.symm (hs₃.extBut _ _ D.TOz.symm (hs₂.extBut _ _ D.i1z.symm hz₁)))
  have hk₅ : ∀ e o, e ≠ z → e ≠ TO → e ≠ i1 → e ≠ i2 → s.heap.get? e = some o → h₅.get? e = some o := fun e o e1 e2 e3 e4 q =>
    hs₅.extBut _ _ e2 (hs₄.extBut _ _ e4 (hs₃.extBut _ _ e2 (hs₂.extBut _ _ e3 (hs₁.extBut _ _ e1 q))))
  have h1₅ : c.itr h₅ i1 (i + 1) := Cp.itr_at h1₂ fun o e => hs₅.extBut _ _ D.TOi1.symm (hs₄.extBut _ _ D.i12 (hs₃.extBut _ _ D.TOi1.symm e))
  have h2₅ : d.itr h₅ i2 (i + 1) := Cp.itr_at h2₄ fun o e => hs₅.extBut _ _ D.TOi2.symm e
  have hzlt : z < h₅.objs.size := Heap.lt_size hz₅
  show wpAny _ _ (Builtin.SmallTypes.ownedTupleHandOut (.ref z) (.ref h₅.objs.size) >>= _) _ _ _
  refine wpAny_bind ?_
  unfold Builtin.SmallTypes.ownedTupleHandOut
  have hz₆ : IsZip (h₅.push { cls := .type "tuple", data := .seq #[u, v] }) z TI TO .ellipsis := Heap.get?_push_of_some _ hz₅
  refine wpAny_bind (wpAny_setField_rec hz₆ (by simp) fun h₇ hz₇ hs₇ => ?_)
  replace hz₇ : IsZip h₇ z TI TO (rawInt h₅.objs.size) := hz₇
  refine wpAny_setField_rec hz₇ (by simp) fun h₈ hz₈ hs₈ => ?_
  replace hz₈ : IsZip h₈ z TI TO (rawInt h₅.objs.size) := hz₈
  have up : ∀ e o, e ≠ z → h₅.get? e = some o → h₈.get? e = some o := fun e o e1 q => hs₈.extBut _ _ e1 (hs₇.extBut _ _ e1 (Heap.get?_push_of_some _ q))
  have hT₈ : IsPair h₈ h₅.objs.size u v := hs₈.extBut _ _ (Nat.ne_of_gt hzlt) (hs₇.extBut _ _ (Nat.ne_of_gt hzlt) (Heap.get?_push_size _ rfl))
  rw [hsz] at hz₈ hT₈
  refine wpAny_pure ⟨_, rfl, wpAny_pure ?_⟩
  show Q (some (.ref h₅.objs.size)) _
  rw [hsz]
  exact hQ u v h₈ _ ru rv ⟨hz₈, up _ _ D.TIz (hk₅ _ _ D.TIz D.TITO D.TIi1 D.TIi2 hTI), ⟨_, _, up _ _ D.TOz hTO₅⟩, Cp.itr_at h1₅ fun o e => up _ o D.i1z e, Cp.itr_at h2₅ fun o e => up _ o D.i2z e, c1, c2⟩ hT₈
    fun e o e1 e2 e3 e4 q => up e o e1 (hk₅ e o e1 e2 e3 e4 q)
theorem zip_fin {z TI TO i1 i2 : Addr} {i : Nat} {Q : Option Value → Shared → Prop} (hh : A.handled = none) (D : ZipOff z TI TO i1 i2) (Z : ZipSt s.heap z TI TO i1 i2 c d .none i)
    (sc : c.src s.heap xs) (sd : d.src s.heap ys) (hend : xs[i]? = none ∨ ys[i]? = none)
    (hQ : ∀ h' tk, (∀ b o, b ≠ z → b ≠ TO → b ≠ i1 → b ≠ i2 → s.heap.get? b = some o → h'.get? b = some o) → Q none { s with heap := h', toks := tk }) :
    wpAny (model prog w) A (pyNext (.ref z)) Q E s := by
  obtain ⟨hz, hTI, ⟨a, b, hTO⟩, h1, h2, c1, c2⟩ := id Z
  have hT : s.TypeIs (.ref z) "zip" := ⟨_, hz, rfl⟩
  obtain ⟨oi1, T1, _, hi1, ci1, _, n11, n12⟩ := Cp.itr_obj h1
  have cz : c.off z := Cp.off_of sc hz rfl (by decide) (by decide)
  have dz : d.off z := Cp.off_of sd hz rfl (by decide) (by decide)
  have ci : c.off i1 := Cp.off_of sc hi1 ci1 n11 n12
  have di : d.off i1 := Cp.off_of sd hi1 ci1 n11 n12
  have stop : ∀ (h' : Heap) (e : Addr) (tk : Nat), (∃ o, h'.get? e = some o ∧ o.cls = .type "StopIteration") → (∀ b o, b ≠ z → b ≠ TO → b ≠ i1 → b ≠ i2 → s.heap.get? b = some o → h'.get? b = some o) →
      wpAny (model prog w) A (isInstance (.ref e) (.type "StopIteration") >>= fun b => if b = true then pure (none : Option Value) else throw (.ref e)) Q E { s with heap := h', toks := tk } := by
    intro h' e tk he hk
    obtain ⟨o, ho, hc⟩ := he
    refine wpAny_bind (wpAny_isInstance (T := "StopIteration") (b := true) ⟨o, ho, hc⟩ isSubtype_stop ?_)
    exact wpAny_pure (hQ _ _ hk)
  unfold pyNext
  refine wpAny_bind (wpAny_attempt (wpAny_callSpecial?_slot (name := Str.ofString "__next__") hT F.slot_zip_next
    (wpAny_call_entry F.slot_zip_next hT F.entry_zip_next ?_ (F.args_zip_next_1 _))))
  show wpAny _ _ (field (.ref z) 2 >>= _) _ _ _
  refine wpAny_bind (wpAny_field hz rfl (x := .bool false) rfl ?_)
  show wpAny _ _ (field (.ref z) 3 >>= _) _ _ _
  refine wpAny_bind (wpAny_field hz rfl (x := .ref TI) rfl ?_)
  refine wpAny_bind (wpAny_seqItems hTI rfl ?_)
  show wpAny _ _ (Builtin.SmallTypes.ownedTupleIsFree (.ref z) >>= _) _ _ _
  refine wpAny_bind ?_
  unfold Builtin.SmallTypes.ownedTupleIsFree
  refine wpAny_bind (wpAny_field hz rfl (x := .none) rfl (wpAny_pure ?_))
  simp only [if_true]
  refine wpAny_bind (wpAny_rule ?_)
  refine wpAny_bind (wpAny_field hz rfl (x := .ref TO) rfl ?_)
  refine wpAny_bind (wpAny_setField_rec hz (by simp) fun h₁ hz₁ hs₁ => ?_)
  replace hz₁ : IsZip h₁ z TI TO .ellipsis := hz₁
  refine wpAny_bind ?_
  simp only [List.zipIdx_cons, List.zipIdx_nil, List.forIn_cons, List.forIn_nil]
  refine wpAny_bind (wpAny_bind (wpAny_onRaise ?_))
  show wpAny _ _ (Builtin.SmallTypes.nextOf (.ref i1) >>= _) _ _ _
  cases hx : xs[i]? with
  | none =>
    refine wpAny_bind (Cp.fin (c := c) hh (Cp.itr_at h1 fun o e => hs₁.extBut _ _ D.i1z e) (Cp.src_ext sc hs₁.extBut cz) hx fun h₂ e hs₂ he => ?_)
    obtain ⟨oe, hoe, hce⟩ := he
    have hz₂ : IsZip h₂ z TI TO .ellipsis := hs₂ _ _ D.i1z.symm hz₁
    have hez : e ≠ z := fun x => by subst x; rw [hz₂] at hoe; cases hoe; simp at hce
    refine wpAny_setField_rec hz₂ (by simp) fun h₃ _ hs₃ => ?_
    exact stop h₃ e _ ⟨oe, hs₃.extBut _ _ hez hoe, hce⟩ fun k o c1 _ c3 _ x => hs₃.extBut _ _ c1 (hs₂ _ _ c3 (hs₁.extBut _ _ c1 x))
  | some x =>
    have hy : ys[i]? = none := by rcases hend with h | h; rw [hx] at h; cases h; exact h
    refine wpAny_bind (Cp.item (c := c) (Cp.itr_at h1 fun o e => hs₁.extBut _ _ D.i1z e) (Cp.src_ext sc hs₁.extBut cz) hx fun u h₂ tk₂ ru h1₂ hs₂ => wpAny_pure ?_)
    have hTO₂ : IsPair h₂ TO a b := hs₂.extBut _ _ D.TOi1 (hs₁.extBut _ _ D.TOz hTO)
    refine wpAny_bind (wpAny_seqItems hTO₂ rfl ?_)
    refine wpAny_bind (wpAny_updateSeq_pair hTO₂ fun h₃ hTO₃ hs₃ => ?_)
    refine wpAny_bind (wpAny_letGo (wpAny_pure ?_))
    refine wpAny_bind (wpAny_bind (wpAny_onRaise ?_))
    show wpAny _ _ (Builtin.SmallTypes.nextOf (.ref i2) >>= _) _ _ _
    refine wpAny_bind (Cp.fin (c := d) hh (Cp.itr_at h2 fun o e => hs₃.extBut _ _ D.TOi2.symm (hs₂.extBut _ _ D.i12.symm (hs₁.extBut _ _ D.i2z e))) (Cp.src_ext (Cp.src_ext (Cp.src_ext sd hs₁.extBut dz) hs₂.extBut di) hs₃.extBut c2) hy fun h₄ e hs₄ he => ?_)
    obtain ⟨oe, hoe, hce⟩ := he
    have hz₄ : IsZip h₄ z TI TO .ellipsis := hs₄ _ _ D.i2z.symm (hs₃.extBut _ _ D.TOz.symm (hs₂.extBut _ _ D.i1z.symm hz₁))
    have hez : e ≠ z := fun x => by subst x; rw [hz₄] at hoe; cases hoe; simp at hce
    refine wpAny_setField_rec hz₄ (by simp) fun h₅ _ hs₅ => ?_
    exact stop h₅ e _ ⟨oe, hs₅.extBut _ _ hez hoe, hce⟩ fun k o c1 c2 c3 c4 x => hs₅.extBut _ _ c1 (hs₄ _ _ c4 (hs₃.extBut _ _ c2 (hs₂.extBut _ _ c3 (hs₁.extBut _ _ c1 x))))
def Cp.itObj (t : Tok) : Cp → Obj
  | .lst a => { cls := .type "list_iterator", data := .fields #[.ref a, .int 0 0] }
  | .tup a => { cls := .type "tuple_iterator", data := .fields #[.ref a, .int 0 0] }
  | .txt x => { cls := .type (strIterType x), data := .fields #[.str x t, .int 0 0] }
def Cp.value (t : Tok) : Cp → Value
  | .lst a => .ref a
  | .tup a => .ref a
  | .txt x => .str x t
theorem Cp.value_of {u : Value} (r : RelV c.val u) : ∃ t, u = c.value t := by
  cases c with
  | lst a => exact ⟨0, r⟩
  | tup a => exact ⟨0, r⟩
  | txt x => exact r
theorem Cp.iter {t : Tok} {Q : Value → Shared → Prop} (hs : c.src s.heap xs) (hQ : Q (.ref s.heap.objs.size) { s with heap := s.heap.push (c.itObj t) }) : wpAny (model prog w) A (pyIter (c.value t)) Q E s := by
  cases c with
  | lst a => obtain ⟨its, _, p⟩ := hs; exact wpAny_pyIter_list p hQ
  | tup a => obtain ⟨its, _, p⟩ := hs; exact wpAny_pyIter_tuple p hQ
  | txt x => exact wpAny_pyIter_strU hQ
theorem Cp.itr_new {t : Tok} {h : Heap} {it : Addr} (e : h.get? it = some (c.itObj t)) : c.itr h it 0 := by
  cases c with
  | lst a => exact ⟨_, e, rfl, rfl⟩
  | tup a => exact ⟨_, e, rfl, rfl⟩
  | txt x => exact ⟨t, _, e, rfl, rfl⟩
abbrev zH1 (h : Heap) (o1 : Obj) : Heap := h.push o1
abbrev zH2 (h : Heap) (o1 o2 : Obj) : Heap := (zH1 h o1).push o2
abbrev zH3 (h : Heap) (o1 o2 : Obj) : Heap := (zH2 h o1 o2).push { cls := .type "tuple", data := .seq #[.ref h.objs.size, .ref (zH1 h o1).objs.size] }
abbrev zH4 (h : Heap) (o1 o2 : Obj) : Heap := (zH3 h o1 o2).push { cls := .type "tuple", data := .seq #[.none, .none] }
abbrev zH5 (h : Heap) (o1 o2 : Obj) : Heap := (zH4 h o1 o2).push { cls := .type "zip", data := .fields #[.none, .bool false, .bool false, .ref (zH2 h o1 o2).objs.size, .ref (zH3 h o1 o2).objs.size] }
theorem meets_zip (c d : Cp) (t1 t2 : Tok) (xs ys : List V) :
    Meets (Builtin.«zip.__new__» ⟨[.type "zip", c.value t1, d.value t2], []⟩) (fun _ R s => c.src s.heap xs ∧ d.src s.heap ys ∧
      R (.ok (.ret (.ref (zH4 s.heap (c.itObj t1) (d.itObj t2)).objs.size))) { s with heap := zH5 s.heap (c.itObj t1) (d.itObj t2) }) :=
  .of_wp fun prog w A R s h => by
    obtain ⟨hp, g, dd, tk, os⟩ := s; obtain ⟨hl1, hl2, h⟩ := h
    have hsub := sub_zip
    have hL1 : c.src (Shared.heap ⟨hp, g, dd, tk, os⟩) xs := hl1
    have hL2 : d.src (Shared.heap ⟨hp.push (c.itObj t1), g, dd, tk, os⟩) ys := Cp.src_keep hl2 fun b o e => Heap.get?_push_of_some _ e
    wp_walk using Cp.iter (t := t1) hL1, Cp.iter (t := t2) hL2
    exact ⟨_, rfl, h⟩
theorem call_zipC {t1 t2 : Tok} {Q : Value → Shared → Prop} (sc : c.src s.heap xs) (sd : d.src s.heap ys)
    (h : ∀ h', IsZip h' (s.heap.objs.size + 4) (s.heap.objs.size + 2) (s.heap.objs.size + 3) .none → IsPair h' (s.heap.objs.size + 2) (.ref s.heap.objs.size) (.ref (s.heap.objs.size + 1)) →
      IsPair h' (s.heap.objs.size + 3) .none .none → c.itr h' s.heap.objs.size 0 → d.itr h' (s.heap.objs.size + 1) 0 → (∀ b o, s.heap.get? b = some o → h'.get? b = some o) → Q (.ref (s.heap.objs.size + 4)) { s with heap := h' }) :
    wpAny (model prog w) A (call (.type "zip") [c.value t1, d.value t2]) Q E s := by
  refine callType_new F.called_zip (by decide) (F.typeCall_zip_2 _ _) (F.newCall_zip_2 _ _) (fun obj => F.args_object_init_3 obj _ _) F.entry_zip_new
    (meets_zip c d t1 t2 xs ys) ⟨sc, sd, ?_⟩
  have z1 : (zH1 s.heap (c.itObj t1)).objs.size = s.heap.objs.size + 1 := Heap.size_push ..
  have z2 : (zH2 s.heap (c.itObj t1) (d.itObj t2)).objs.size = s.heap.objs.size + 2 := by rw [Heap.size_push, z1]
  have z3 : (zH3 s.heap (c.itObj t1) (d.itObj t2)).objs.size = s.heap.objs.size + 3 := by rw [Heap.size_push, z2]
  have z4 : (zH4 s.heap (c.itObj t1) (d.itObj t2)).objs.size = s.heap.objs.size + 4 := by rw [Heap.size_push, z3]
  have it1 : (c.itObj t1).isFreed = false := by cases c <;> rfl
  have it2 : (d.itObj t2).isFreed = false := by cases d <;> rfl
  have g5 : (zH5 s.heap (c.itObj t1) (d.itObj t2)).get? (zH4 s.heap (c.itObj t1) (d.itObj t2)).objs.size = some _ := Heap.get?_push_size _ rfl
  have g4 : (zH5 s.heap (c.itObj t1) (d.itObj t2)).get? (zH3 s.heap (c.itObj t1) (d.itObj t2)).objs.size = some _ := Heap.get?_push_of_some _ (Heap.get?_push_size _ rfl)
  have g3 : (zH5 s.heap (c.itObj t1) (d.itObj t2)).get? (zH2 s.heap (c.itObj t1) (d.itObj t2)).objs.size = some _ := Heap.get?_push_of_some _ (Heap.get?_push_of_some _ (Heap.get?_push_size _ rfl))
  have g2 : (zH5 s.heap (c.itObj t1) (d.itObj t2)).get? (zH1 s.heap (c.itObj t1)).objs.size = some _ := Heap.get?_push_of_some _ (Heap.get?_push_of_some _ (Heap.get?_push_of_some _ (Heap.get?_push_size _ it2)))
  have g1 : (zH5 s.heap (c.itObj t1) (d.itObj t2)).get? s.heap.objs.size = some _ := Heap.get?_push_of_some _ (Heap.get?_push_of_some _ (Heap.get?_push_of_some _ (Heap.get?_push_of_some _ (Heap.get?_push_size _ it1))))
  show _ ∧ _
  rw [z2, z3, z4] at g5
  rw [z1, z2] at g3
  rw [z3] at g4
  rw [z1] at g2
  rw [z4]
  exact ⟨⟨_, g5, rfl⟩, h _ g5 g3 g4 (Cp.itr_new g1) (Cp.itr_new g2) fun b o x =>
    Heap.get?_push_of_some _ (Heap.get?_push_of_some _ (Heap.get?_push_of_some _ (Heap.get?_push_of_some _ (Heap.get?_push_of_some _ x))))⟩
end
section
variable {X : Cx} {pins : List (Addr × Obj)} {σ : St} {H : Hp} {s : Shared}
theorem Inv.moved {h' : Heap} {t' : Nat} {ch : List Addr} (I : Inv X pins σ H s) (k : ∀ b o, b ∉ ch → s.heap.get? b = some o → h'.get? b = some o) (hf : ∀ b ∈ ch, FpOk X pins H b) (ht : s.toks ≤ t' := by first | exact Nat.le_refl _ | exact Nat.le_succ _ | assumption | omega) : Inv X pins σ H { s with heap := h', toks := t' } := by
  have nch : ∀ b u, H b = some u → b ∉ ch := fun b u e z => by rw [(hf b z).1] at e; cases e
  refine I.step (g' := s.gens) (d' := s.drawn) (ch := ch) (fun b hb => ?_) (fun b o _ _ hc e _ => k b o hc e) (fun b o _ _ hc e _ => ⟨o.slots, k b o hc e⟩) (fun _ _ _ _ n => n)
    (fun b o hc e => ⟨o, k b o hc e⟩) (fun _ _ e => e) (fun _ _ _ e => e) (fun b ps e => ⟨#[], by rw [e]; simp⟩) (fun m hm => ?_) (fun b u e => ?_) I.bare (Nat.le_trans I.up ht)
  · obtain ⟨_, h1, _, h3, h4, h5⟩ := hf b hb
    exact ⟨h3, h1, h4, h5⟩
  · obtain ⟨o, es, ep, ho, r⟩ := hm
    exact ⟨o, es, ep, k _ o (fun z => (hf _ z).2.1 rfl) ho, r⟩
  · refine (I.hok b u e).stay (fun c v hc q => k c v ?_ q) (fun _ q => q) fun _ _ q => q
    rcases hc with z | z
    · rw [z]; exact nch b u e
    · exact nch c _ z
theorem Inv.track {a : Addr} {o : HO} (I : Inv X pins σ H s) (hf : FpOk X pins H a) (new : ObjOk X.prog X.w (upd H a o) s.heap a o) : Inv X pins σ (upd H a o) s := by
  have hn := hf.1
  have e : s = { s with heap := s.heap, gens := s.gens, drawn := s.drawn, toks := s.toks } := rfl
  rw [e]
  refine I.step (ch := [a]) (fun b hb => ?_) (fun _ _ _ _ _ e _ => e) (fun _ o _ _ _ e _ => ⟨o.slots, e⟩) (fun b _ hc _ n => ?_)
    (fun _ o _ e => ⟨o, e⟩) (fun b _ e => ?_) (fun b _ _ e => ?_) (fun b ps e => ⟨#[], ?_⟩) (fun _ hm => hm) (fun b u q => ?_) I.bare I.up
  · have eb : b = a := by simpa using hb
    subst eb
    obtain ⟨_, h1, _, h3, h4, h5⟩ := hf
    exact ⟨h3, h1, h4, h5⟩
  · rw [upd_ne (fun z => hc (by simp [z]))]; exact n
  · rw [upd_ne (ne_of_none e hn)]; exact e
  · rw [upd_ne (ne_of_none e hn)]; exact e
  · rw [upd_ne (ne_of_none e hn), e]; simp
  · by_cases hb : b = a
    · subst hb; rw [upd_same] at q; cases q; exact new
    · rw [upd_ne hb] at q
      exact (I.hok b u q).stay (fun c v _ r => r) (fun c r => by rw [upd_ne (ne_of_none r hn)]; exact r) fun c xs r => by rw [upd_ne (ne_of_none r hn)]; exact r
def Itz (K : PySem.W.Frag) (c d : Cp) : It :=
  ⟨fun i H => ∃ xs ys x y, c.at K H xs ∧ d.at K H ys ∧ xs[i]? = some x ∧ ys[i]? = some y,
   fun i H v H' => ∃ p x y, v = .ref p ∧ H p = none ∧ H' = upd H p (.tup [x, y]) ∧ ∀ xs ys, c.at K H xs → d.at K H ys → xs[i]? = some x ∧ ys[i]? = some y,
   fun i H => ∃ xs ys, c.at K H xs ∧ d.at K H ys ∧ (xs.length ≤ i ∨ ys.length ≤ i)⟩
theorem turn_zip {P : Program} {w : World} {K : PySem.W.Frag} {elts : List Expr} {k : Nat} {pos : Pos} {c d : Cp} {z TI TO i1 i2 : Addr} (D : ZipOff z TI TO i1 i2) :
    Turn P w K (.Tuple elts k pos) (Itz K c d) [z, TI, TO, i1, i2] z (fun i h => ZipSt h z TI TO i1 i2 c d .none i) where
  mem := by simp
  obj := fun i h Z b hb => by
    obtain ⟨hz, hTI, ⟨a, b', hTO⟩, h1, h2, _, _⟩ := Z
    obtain ⟨oi1, T1, v1, hi1, _, d1, _⟩ := Cp.itr_obj h1
    obtain ⟨oi2, T2, v2, hi2, _, d2, _⟩ := Cp.itr_obj h2
    simp only [List.mem_cons, List.not_mem_nil, or_false] at hb
    rcases hb with rfl | rfl | rfl | rfl | rfl
    · exact ⟨_, hz, fun v q => by cases q⟩
    · exact ⟨_, hTI, fun v q => by cases q⟩
    · exact ⟨_, hTO, fun v q => by cases q⟩
    · exact ⟨_, hi1, fun v q => by rw [d1] at q; cases q⟩
    · exact ⟨_, hi2, fun v q => by rw [d2] at q; cases q⟩
  keep := fun i h h' Z kp => by
    obtain ⟨hz, hTI, ⟨a, b', hTO⟩, h1, h2, o1, o2⟩ := Z
    exact ⟨kp z (by simp) _ hz, kp TI (by simp) _ hTI, ⟨a, b', kp TO (by simp) _ hTO⟩, Cp.itr_at h1 fun o e => kp i1 (by simp) o e, Cp.itr_at h2 fun o e => kp i2 (by simp) o e, o1, o2⟩
  item := by
    intro X hP hw hK hc i pins s σ H E I hf Z hg
    subst hP hw hK
    obtain ⟨xs, ys, x, y, hx, hy, ex, ey⟩ := hg
    have sc := Cp.src_of I hx
    have sd := Cp.src_of I hy
    refine TK.wpAny_up (Nat.le_refl s.toks) (zip_item D Z sc sd ex ey fun u v h' tk ru rv Z' hp kk hup => ⟨_, rfl, ?_⟩)
    refine wpAny_letOwnedTupleGo_zip Z'.zz fun h'' hz'' sb => ?_
    have hnz : s.heap.objs.size ≠ z := Nat.ne_of_gt (Heap.lt_size Z.zz)
    have k2 : ∀ b o, b ∉ [z, TI, TO, i1, i2] → s.heap.get? b = some o → h''.get? b = some o := fun b o hb e => by
      simp only [List.mem_cons, List.not_mem_nil, or_false, not_or] at hb
      exact sb.extBut _ _ hb.1 (kk b o hb.1 hb.2.2.1 hb.2.2.2.1 hb.2.2.2.2 e)
    have I1 : Inv X pins σ H { s with heap := h'', toks := tk } := I.moved k2 hf
    have hn : H s.heap.objs.size = none := I.fresh
    have fok : FpOk X pins H s.heap.objs.size := I.fpOk (Nat.le_refl _) hn
    have hp2 : IsPair h'' s.heap.objs.size u v := sb.extBut _ _ hnz hp
    have I2 : Inv X pins σ (upd H s.heap.objs.size (.tup [x, y])) { s with heap := h'', toks := tk } :=
      I1.track fok ⟨by show 2 ≤ sizeLine; decide, [u, v], .cons ru (.cons rv .nil), ⟨_, hp2, rfl, _, rfl⟩⟩
    refine ⟨.ref s.heap.objs.size, _, I2, rfl, ⟨_, x, y, rfl, hn, rfl, fun xs' ys' hx' hy' => ?_⟩, ?_, fun b hb => ?_⟩
    · rw [Cp.at_inj I hx' hx, Cp.at_inj I hy' hy]; exact ⟨ex, ey⟩
    · obtain ⟨_, hTI, ⟨a, b', hTO⟩, h1, h2, o1, o2⟩ := Z'
      exact ⟨hz'', sb.extBut _ _ D.TIz hTI, ⟨a, b', sb.extBut _ _ D.TOz hTO⟩, Cp.itr_at h1 fun o e => sb.extBut _ _ D.i1z e, Cp.itr_at h2 fun o e => sb.extBut _ _ D.i2z e, o1, o2⟩
    · have lt : b < s.heap.objs.size := by
        obtain ⟨hz, hTI, ⟨a, b', hTO⟩, h1, h2, _, _⟩ := Z
        obtain ⟨oi1, T1, v1, hi1, _, d1, _⟩ := Cp.itr_obj h1
        obtain ⟨oi2, T2, v2, hi2, _, d2, _⟩ := Cp.itr_obj h2
        simp only [List.mem_cons, List.not_mem_nil, or_false] at hb
        rcases hb with rfl | rfl | rfl | rfl | rfl
        · exact Heap.lt_size hz
        · exact Heap.lt_size hTI
        · exact Heap.lt_size hTO
        · exact Heap.lt_size hi1
        · exact Heap.lt_size hi2
      rw [upd_ne (Nat.ne_of_lt lt)]
      exact (hf b hb).1
  done := by
    intro X hP hw hK hc i pins s σ H E I hf Z hg
    subst hP hw hK
    obtain ⟨xs, ys, hx, hy, he⟩ := hg
    refine TK.wpAny_up (Nat.le_refl s.toks) (zip_fin (I.ok.hd hc) D Z (Cp.src_of I hx) (Cp.src_of I hy) (he.imp (fun q => List.getElem?_eq_none q) fun q => List.getElem?_eq_none q) fun h' tk kk hup => ⟨rfl, ?_⟩)
    exact I.moved (fun b o hb e => by
      simp only [List.mem_cons, List.not_mem_nil, or_false, not_or] at hb
      exact kk b o hb.1 hb.2.2.1 hb.2.2.2.1 hb.2.2.2.2 e) hf
  self := fun _ _ _ _ _ Z h => wpAny_pyIter_zip Z.zz h
theorem zipOff_new (n : Nat) : ZipOff (n + 4) (n + 2) (n + 3) n (n + 1) := by
  have ne : ∀ {a b : Nat}, a < b → a ≠ b := fun h => Nat.ne_of_lt h
  exact ⟨ne (by omega), ne (by omega), ne (by omega), ne (by omega), ne (by omega), (ne (by omega)).symm, (ne (by omega)).symm, (ne (by omega)).symm, (ne (by omega)).symm, ne (by omega)⟩
def iZip (K : PySem.W.Frag) (ta : TA) : TI := fun σ H R => ta σ H fun vs H1 => ∃ c d xs ys, vs = [c.val, d.val] ∧ c.at K H1 xs ∧ d.at K H1 ys ∧ R (Itz K c d) H1
theorem pi_zip {a b : Expr} {ta : TA} {p pos : Pos} {elts : List Expr} {k : Nat} {tpos : Pos} (hc : X.calm = true) (hg : Gl X "zip") (hm : X.mg "zip" = none) (ha : PA X [a, b] ta)
    (hs : starEach [a, b] X.env = [(false, eval a X.env), (false, eval b X.env)] := by rfl) (hs2 : starEach [b] X.env = [(false, eval b X.env)] := by rfl) :
    PI X (.Tuple elts k tpos) (.Call (.Name "zip" p) [a, b] [] pos) (iZip X.K ta) := by
  intro pins s σ H R I h
  refine Call_ (ld_blt I hg hm boot_zip (PyProof.Rows.callWith_type1 (thn (ha pos pins s σ H _ I h) fun us s1 ⟨vs, H1, I1, r1, q1⟩ => ?_) (by rw [hs, hs2]) (by rw [hs2]; rfl)))
  obtain ⟨c, d, xs, ys, e, hx, hy, q⟩ := q1
  subst e
  obtain ⟨u, v, rfl, ru, rv⟩ := vals2 r1
  obtain ⟨t1, rfl⟩ := Cp.value_of ru
  obtain ⟨t2, rfl⟩ := Cp.value_of rv
  have sc := Cp.src_of I1 hx
  have sd := Cp.src_of I1 hy
  refine call_zipC sc sd fun h' hz hTI hTO h1 h2 kk => wpAny_pyIter_zip hz ?_
  have D : ZipOff (s1.heap.objs.size + 4) (s1.heap.objs.size + 2) (s1.heap.objs.size + 3) s1.heap.objs.size (s1.heap.objs.size + 1) :=
    zipOff_new _
  refine ⟨_, [s1.heap.objs.size + 4, s1.heap.objs.size + 2, s1.heap.objs.size + 3, s1.heap.objs.size, s1.heap.objs.size + 1], _, _, H1, rfl, I1.kept (t' := s1.toks) kk, turn_zip D,
    ⟨hz, hTI, ⟨_, _, hTO⟩, h1, h2, Cp.off_new sc (Nat.le_add_right _ 3), Cp.off_new sd (Nat.le_add_right _ 3)⟩, fun b hb => ?_, q⟩
  have le : s1.heap.objs.size ≤ b := by
    simp only [List.mem_cons, List.not_mem_nil, or_false] at hb
    rcases hb with rfl | rfl | rfl | rfl | rfl
    · exact Nat.le_add_right _ _
    · exact Nat.le_add_right _ _
    · exact Nat.le_add_right _ _
    · exact Nat.le_refl _
    · exact Nat.le_add_right _ _
  exact I1.fpOk le (I1.hok.fresh le)
end
end L2

namespace L2
open PySem PySem.Spec PyProof.Rows
/-! ### a text, sign by sign -/
def Its (x : Str) : It := ⟨fun i _ => i < x.cps.size, fun i H v H' => H' = H ∧ ∃ k, x.cps[i]? = some k ∧ v = .str ⟨#[k]⟩, fun i _ => x.cps.size ≤ i⟩
section
variable {prog : Program} {w : World} {A : Around} {E : Value → Shared → Prop} {s : Shared}
theorem pyNext_txt_item {it : Addr} {x : Str} {t : Tok} {i k : Nat} {Q : Option Value → Shared → Prop} (hit : s.heap.IsStrIter it (strIterType x) x t i) (hx : x.cps[i]? = some k)
    (hQ : ∀ h', h'.IsStrIter it (strIterType x) x t (i + 1) → Heap.SameBut it s.heap h' → Q (some (.str ⟨#[k]⟩ s.toks)) { s with heap := h', toks := s.toks + 1 }) : wpAny (model prog w) A (pyNext (.ref it)) Q E s := by
  unfold strIterType at hit hQ
  by_cases ha : (x.cps.all (· < 128)) = true
  · rw [if_pos ha] at hit hQ
    exact wpAny_pyNext_ascii_item hit hx hQ
  · rw [if_neg ha] at hit hQ
    exact wpAny_pyNext_wide_item hit hx hQ
theorem pyNext_txt_end {it : Addr} {x : Str} {t : Tok} {i : Nat} {Q : Option Value → Shared → Prop} (hh : A.handled = none) (hit : s.heap.IsStrIter it (strIterType x) x t i) (hx : x.cps[i]? = none)
    (hQ : ∀ h', Heap.ExtBut it s.heap h' → Q none { s with heap := h' }) : wpAny (model prog w) A (pyNext (.ref it)) Q E s := by
  unfold strIterType at hit
  by_cases ha : (x.cps.all (· < 128)) = true
  · rw [if_pos ha] at hit
    exact wpAny_pyNext_ascii_end hh hit hx hQ
  · rw [if_neg ha] at hit
    exact wpAny_pyNext_wide_end hh hit hx hQ
theorem pyIter_txtiter {it : Addr} {x : Str} {t : Tok} {i : Nat} {Q : Value → Shared → Prop} (hit : s.heap.IsStrIter it (strIterType x) x t i) (h : Q (.ref it) s) : wpAny (model prog w) A (pyIter (.ref it)) Q E s := by
  unfold strIterType at hit
  by_cases ha : (x.cps.all (· < 128)) = true
  · rw [if_pos ha] at hit
    exact wpAny_pyIter_striter_ascii hit h
  · rw [if_neg ha] at hit
    exact wpAny_pyIter_striter_wide hit h
end
theorem strIter_notOwned (x : Str) : ["enumerate", "zip", "dict_itemiterator", "dict_reverseitemiterator", "odict_iterator", "itertools.zip_longest", "itertools.pairwise"].contains (strIterType x) = false := by
  unfold strIterType
  split <;> decide
theorem turn_txt {P : Program} {w : World} {K : PySem.W.Frag} {tg : Expr} (x : Str) (t : Tok) (it : Addr) : Turn P w K tg (Its x) [it] it (fun i h => h.IsStrIter it (strIterType x) x t i) where
  mem := by simp
  obj := fun i h st b hb => by
    have e : b = it := by simpa using hb
    subst e
    obtain ⟨o, e, c, d⟩ := st
    exact ⟨o, e, fun v z => by rw [d] at z; cases z⟩
  keep := fun i h h' st k => by
    obtain ⟨o, e, r⟩ := st
    exact ⟨o, k it (by simp) o e, r⟩
  item := by
    intro X hP hw hK hc i pins s σ H E I hf st hg
    subst hP hw hK
    have hi : i < x.cps.size := hg
    obtain ⟨f0, f1, f2, f3, f4, f5⟩ := hf it (by simp)
    refine pyNext_txt_item st (k := x.cps[i]) (by simp [hi]) fun h' st' sb => ?_
    have I1 : Inv X pins σ H { s with heap := h', toks := s.toks + 1 } := I.turned (fun b o hb e => (sb.2 b hb).trans e) f0 f1 f3 f4 f5
    obtain ⟨o, e, c, d⟩ := id st'
    exact ⟨_, rfl, go_of (s := { s with heap := h', toks := s.toks + 1 }) e c d (strIter_notOwned x) ⟨.str ⟨#[x.cps[i]]⟩, H, I1, ⟨_, rfl⟩, ⟨rfl, _, by simp [hi], rfl⟩, st', fun b hb => (hf b hb).1⟩⟩
  done := by
    intro X hP hw hK hc i pins s σ H E I hf st hg
    subst hP hw hK
    have hi : x.cps.size ≤ i := hg
    obtain ⟨f0, f1, f2, f3, f4, f5⟩ := hf it (by simp)
    exact pyNext_txt_end (I.ok.hd hc) st (by simp [hi]) fun h' eb => ⟨rfl, I.turned (t' := s.toks) (fun b o hb e => eb b o hb e) f0 f1 f3 f4 f5⟩
  self := fun _ _ _ _ _ st h => pyIter_txtiter st h
section
variable {X : Cx} {tg : Expr}
def iTxt (tl : TE) : TI := fun σ H R => tl σ H fun v H1 => ∃ x, v = .str x ∧ R (Its x) H1
theorem pi_txt {l : Expr} {tl : TE} (hl : PE X l tl) : PI X tg l (iTxt tl) := by
  intro pins s σ H R I h
  refine thn (hl pins s σ H _ I h) fun v s1 ⟨y, H1, I1, r1, q1⟩ => ?_
  obtain ⟨x, e, q⟩ := q1
  subst e
  obtain ⟨t, rfl⟩ := r1
  refine wpAny_pyIter_strU ?_
  refine ⟨s1.heap.objs.size, [s1.heap.objs.size], _, _, H1, rfl, I1.kept (t' := s1.toks) fun b o e => Heap.get?_push_of_some _ e, turn_txt x t _, ⟨_, Heap.get?_push_size _ rfl, rfl, rfl⟩, fun b hb => ?_, q⟩
  have e : b = s1.heap.objs.size := by simpa using hb
  subst e
  exact I1.fpOk (Nat.le_refl _) (I1.hok.fresh (Nat.le_refl _))
theorem for_txt {x : Str} {g : TG} {tb : TS} {D : Ends} {σ : St} {H : Hp} (Pv : Nat → St → Hp → Prop) (h0 : Pv 0 σ H)
    (hs : ∀ i k σ H, x.cps[i]? = some k → Pv i σ H → g (.str ⟨#[k]⟩) σ H fun σ2 H2 => tb { D with nx := Pv (i + 1), ct := Pv (i + 1), bk := D.nx } σ2 H2) (hd : ∀ σ H, Pv x.cps.size σ H → D.nx σ H) :
    ∃ W : Nat → Nat → St → Hp → Prop, (∃ m, W 0 m σ H) ∧ ∀ i m σ H, W i m σ H →
      ((Its x).stop i H ∧ D.nx σ H) ∨ ((Its x).go i H ∧ ∃ N : St → Hp → Prop, (∀ σ' H', N σ' H' → ∃ m', m' < m ∧ W (i + 1) m' σ' H') ∧ ∀ y H', (Its x).yld i H y H' → g y σ H' fun σ2 H2 => tb { D with nx := N, ct := N, bk := D.nx } σ2 H2) := by
  refine ⟨fun i m σ H => m = x.cps.size - i ∧ i ≤ x.cps.size ∧ Pv i σ H, ⟨x.cps.size, by simp, Nat.zero_le _, h0⟩, ?_⟩
  rintro i m σ H ⟨rfl, hi, p⟩
  by_cases hlt : i < x.cps.size
  · refine .inr ⟨hlt, Pv (i + 1), fun σ' H' p' => ⟨x.cps.size - (i + 1), by omega, rfl, hlt, p'⟩, fun y H' q => ?_⟩
    obtain ⟨e, k, ek, rfl⟩ := q
    subst e
    exact hs i k σ _ ek p
  · have e : i = x.cps.size := by omega
    subst e
    exact .inl ⟨Nat.le_refl _, hd σ H p⟩
end
end L2

namespace L2
open PySem PySem.Spec PyProof.Rows
/-! ### enumerate -/
def Cp.adr : Cp → List Addr
  | .lst a => [a]
  | .tup a => [a]
  | .txt _ => []
theorem Cp.off_adr {c : Cp} {b : Addr} (h : c.off b) : b ∉ c.adr := by
  cases c with
  | lst a =>
    intro z
    have q : b = a := by simpa [Cp.adr] using z
    exact h q.symm
  | tup a =>
    intro z
    have q : b = a := by simpa [Cp.adr] using z
    exact h q.symm
  | txt x => intro z; cases z
theorem Cp.src_adr {c : Cp} {xs : List V} {h h' : Heap} (hs : c.src h xs) (k : ∀ b ∈ c.adr, ∀ o, h.get? b = some o → h'.get? b = some o) : c.src h' xs := by
  cases c with
  | lst a => obtain ⟨its, r, o, ho, q⟩ := hs; exact ⟨its, r, o, k a (by simp [Cp.adr]) _ ho, q⟩
  | tup a => obtain ⟨its, r, o, ho, q⟩ := hs; exact ⟨its, r, o, k a (by simp [Cp.adr]) _ ho, q⟩
  | txt x => exact hs
theorem Cp.draws {prog : Program} {w : World} {A : Around} {c : Cp} {xs : List V} (hh : A.handled = none) (it : Addr) :
    Draws prog w A it (it :: c.adr) xs.length (fun i v => ∃ x, xs[i]? = some x ∧ RelV x v) (fun i h => c.itr h it i ∧ c.src h xs) where
  live := fun i h st => by
    obtain ⟨o, _, _, ho, _⟩ := Cp.itr_obj st.1
    exact ⟨o, ho⟩
  frame := fun i h h' st k => ⟨Cp.itr_at st.1 fun o e => k it (by simp) o e, Cp.src_adr st.2 fun b hb o e => k b (List.mem_cons_of_mem _ hb) o e⟩
  item := fun i s Q E hi st hQ => by
    obtain ⟨o, T, _, ho, hc, _, n1, n2⟩ := Cp.itr_obj st.1
    have off : c.off it := Cp.off_of st.2 ho hc n1 n2
    refine Cp.item st.1 st.2 (x := xs[i]) (by simp [hi]) fun u h' tk ru q sb => ?_
    exact hQ u h' tk ⟨_, by simp [hi], ru⟩ ⟨q, Cp.src_ext st.2 sb.extBut off⟩ sb
  done := fun s Q E st hE => Cp.fin hh st.1 st.2 (by simp) hE
def Ite (K : PySem.W.Frag) (c : Cp) : It :=
  ⟨fun i H => ∃ xs x, c.at K H xs ∧ xs[i]? = some x,
   fun i H v H' => ∃ p x, v = .ref p ∧ H p = none ∧ H' = upd H p (.tup [.int (i : Int), x]) ∧ ∀ xs, c.at K H xs → xs[i]? = some x,
   fun i H => ∃ xs, c.at K H xs ∧ xs.length ≤ i⟩
theorem turn_enum {P : Program} {w : World} {K : PySem.W.Frag} {elts : List Expr} {k : Nat} {pos : Pos} {c : Cp} {e it : Addr} (hei : e ≠ it) :
    Turn P w K (.Tuple elts k pos) (Ite K c) [e, it] e (fun i h => (∃ old, IsEnum h e it i old) ∧ c.itr h it i) where
  mem := by simp
  obj := fun i h Z b hb => by
    obtain ⟨⟨old, he⟩, hi⟩ := Z
    obtain ⟨o, _, vs, ho, _, d, _⟩ := Cp.itr_obj hi
    simp only [List.mem_cons, List.not_mem_nil, or_false] at hb
    rcases hb with rfl | rfl
    · exact ⟨_, he, fun v q => by cases q⟩
    · exact ⟨_, ho, fun v q => by rw [d] at q; cases q⟩
  keep := fun i h h' Z kp => by
    obtain ⟨⟨old, he⟩, hi⟩ := Z
    exact ⟨⟨old, kp e (by simp) _ he⟩, Cp.itr_at hi fun o q => kp it (by simp) o q⟩
  item := by
    intro X hP hw hK hc i pins s σ H E I hf Z hg
    subst hP hw hK
    obtain ⟨xs, x, hx, ex⟩ := hg
    obtain ⟨⟨old, he⟩, hi⟩ := id Z
    have sc := Cp.src_of I hx
    have offe : c.off e := Cp.off_of sc he rfl (by decide) (by decide)
    have hlt : i < xs.length := (List.getElem?_eq_some_iff.mp ex).1
    have hh : X.A.in1.handled = none := I.ok.hd hc
    refine TK.wpAny_up (Nat.le_refl s.toks) (wpAny_pyNext_enum_itemD (Cp.draws (c := c) (xs := xs) hh it) he ⟨hi, sc⟩ hlt hei (fun z => ?_) fun u h' tk hP ho st' hT hsz kk hup => ⟨_, rfl, ?_⟩)
    · rcases List.mem_cons.mp z with q | q
      · exact hei q
      · exact Cp.off_adr offe q
    · obtain ⟨x', ex', ru⟩ := hP
      rw [ex] at ex'
      cases ex'
      refine wpAny_letOwnedTupleGo_enum ho fun h'' he'' sb => ?_
      have hne : s.heap.objs.size ≠ e := Nat.ne_of_gt (Heap.lt_size he)
      have k2 : ∀ b o, b ∉ [e, it] → s.heap.get? b = some o → h''.get? b = some o := fun b o hb q => by
        simp only [List.mem_cons, List.not_mem_nil, or_false, not_or] at hb
        exact sb.extBut _ _ hb.1 (kk b o hb.1 hb.2 q)
      have I1 : Inv X pins σ H { s with heap := h'', toks := tk + 1 } := I.moved k2 hf (by have z : s.toks ≤ tk + 1 := hup; exact z)
      have hn : H s.heap.objs.size = none := I.fresh
      have fok : FpOk X pins H s.heap.objs.size := I.fpOk (Nat.le_refl _) hn
      have hp2 : h''.get? s.heap.objs.size = some { cls := .type "tuple", data := .seq #[.int i tk, u] } := sb.extBut _ _ hne hT
      have I2 : Inv X pins σ (upd H s.heap.objs.size (.tup [.int (i : Int), x])) { s with heap := h'', toks := tk + 1 } :=
        I1.track fok ⟨by show 2 ≤ sizeLine; decide, [.int i tk, u], .cons ⟨_, rfl⟩ (.cons ru .nil), ⟨_, hp2, rfl, _, rfl⟩⟩
      refine ⟨.ref s.heap.objs.size, _, I2, rfl, ⟨_, x, rfl, hn, rfl, fun xs' hx' => ?_⟩, ⟨⟨_, he''⟩, Cp.itr_at st'.1 fun o q => sb.extBut _ _ (Ne.symm hei) q⟩, fun b hb => ?_⟩
      · rw [Cp.at_inj I hx' hx]; exact ex
      · obtain ⟨o, _, vs, hoi, _⟩ := Cp.itr_obj hi
        have lt : b < s.heap.objs.size := by
          have hb' := hb
          simp only [List.mem_cons, List.not_mem_nil, or_false] at hb'
          rcases hb' with rfl | rfl
          · exact Heap.lt_size he
          · exact Heap.lt_size hoi
        rw [upd_ne (Nat.ne_of_lt lt)]
        exact (hf b hb).1
  done := by
    intro X hP hw hK hc i pins s σ H E I hf Z hg
    subst hP hw hK
    obtain ⟨xs, hx, hle⟩ := hg
    obtain ⟨⟨old, he⟩, hi⟩ := Z
    have hh : X.A.in1.handled = none := I.ok.hd hc
    have hT : s.TypeIs (.ref e) "enumerate" := ⟨_, he, rfl⟩
    unfold pyNext
    refine wpAny_bind (wpAny_attempt (wpAny_callSpecial?_slot (name := Str.ofString "__next__") hT F.slot_enumerate_next
      (wpAny_call_entry F.slot_enumerate_next hT F.entry_enumerate_next ?_ (F.args_enumerate_next_1 _))))
    show wpAny _ _ (field (.ref e) 2 >>= _) _ _ _
    refine wpAny_bind (wpAny_field he rfl (x := .ref it) rfl ?_)
    refine wpAny_bind (Cp.fin hh hi (Cp.src_of I hx) (List.getElem?_eq_none hle) fun h' y eb hy => ?_)
    obtain ⟨o, ho, hcl⟩ := hy
    refine wpAny_bind (wpAny_isInstance (T := "StopIteration") (b := true) ⟨o, ho, hcl⟩ isSubtype_stop ?_)
    refine wpAny_pure ⟨rfl, I.moved (t' := s.toks) (ch := [e, it]) (fun b o hb q => eb b o ?_ q) hf⟩
    simp only [List.mem_cons, List.not_mem_nil, or_false, not_or] at hb
    exact hb.2
  self := fun _ _ _ _ _ Z h => by
    obtain ⟨⟨old, he⟩, _⟩ := Z
    exact wpAny_pyIter_enum he h
section
variable {prog : Program} {w : World} {A : Around} {E : Value → Shared → Prop} {s : Shared}
set_option maxHeartbeats 1000000 in
theorem meets_enum_tup (l : Addr) (items : Array Value) (n : Nat) (dct : Option Addr) (sl : Array (Option Value)) :
    Meets (Builtin.«enumerate.__new__» ⟨[.type "enumerate", .ref l], []⟩) (fun _ R s => s.heap.get? l = some { cls := .type "tuple", dict := dct, data := .seq items n, slots := sl } ∧
      R (.ok (.ret (.ref (s.heap.push { cls := .type "tuple_iterator", data := .fields #[.ref l, .int 0 0] }).objs.size)))
        { s with heap := (s.heap.push { cls := .type "tuple_iterator", data := .fields #[.ref l, .int 0 0] }).push { cls := .type "enumerate", data := .fields #[.none, .bool false, .ref s.heap.objs.size, rawInt 0, .none, .none] } }) :=
  .of_wp fun prog w A R s h => by
    obtain ⟨hp, g, d, tk, os⟩ := s; obtain ⟨hl, h⟩ := h
    have hsub := sub_enumerate
    have hL : Heap.IsTuple (Shared.heap ⟨hp, g, d, tk, os⟩) l items := ⟨_, hl, rfl, n, rfl⟩
    wp_walk using AutoSeq1.wpAny_loadPart' hl
    refine wpAny_stack_any fun st => wpAny_pure ?_
    split
    · rename_i c _ _ _ _ _
      cases (c == Value.type "enumerate")
      · wp_walk using AutoSeq1.wpAny_loadPart' hl, wpAny_pyIter_tuple hL
        exact ⟨_, rfl, h⟩
      · wp_walk using AutoSeq1.wpAny_loadPart' hl, wpAny_pyIter_tuple hL
        exact ⟨_, rfl, h⟩
    · wp_walk using AutoSeq1.wpAny_loadPart' hl, wpAny_pyIter_tuple hL
      exact ⟨_, rfl, h⟩
theorem call_enum_tup {l : Addr} {items : Array Value} {Q : Value → Shared → Prop} (hL : s.heap.IsTuple l items)
    (h : ∀ h', IsEnum h' (s.heap.objs.size + 1) s.heap.objs.size 0 .none → h'.IsTupleIter s.heap.objs.size l 0 →
      (∀ b o, s.heap.get? b = some o → h'.get? b = some o) → Q (.ref (s.heap.objs.size + 1)) { s with heap := h' }) :
    wpAny (model prog w) A (call (.type "enumerate") [.ref l]) Q E s := by
  obtain ⟨⟨c, dct, dt, sl⟩, hl, hc, n, hd⟩ := hL
  replace hc : c = .type "tuple" := hc
  replace hd : dt = .seq items n := hd
  subst hc hd
  refine callType_new F.called_enumerate (by decide) (F.typeCall_enumerate_1 _) (F.newCall_enumerate_1 _) (fun obj => F.args_object_init_2 obj _) F.entry_enumerate_new
    (meets_enum_tup l items n dct sl) ⟨hl, ?_⟩
  have hz : (s.heap.push { cls := .type "tuple_iterator", data := .fields #[.ref l, .int 0 0] }).objs.size = s.heap.objs.size + 1 := Heap.size_push ..
  show _ ∧ _
  rw [hz]
  have he : IsEnum ((s.heap.push { cls := .type "tuple_iterator", data := .fields #[.ref l, .int 0 0] }).push
      { cls := .type "enumerate", data := .fields #[.none, .bool false, .ref s.heap.objs.size, rawInt 0, .none, .none] }) (s.heap.objs.size + 1) s.heap.objs.size 0 .none := by
    have := Heap.get?_push_size (s.heap.push { cls := .type "tuple_iterator", data := .fields #[.ref l, .int 0 0] })
      (o := { cls := .type "enumerate", data := .fields #[.none, .bool false, .ref s.heap.objs.size, rawInt 0, .none, .none] }) rfl
    rw [hz] at this; exact this
  exact ⟨⟨_, he, rfl⟩, h _ he ⟨_, Heap.get?_push_of_some _ (Heap.get?_push_size _ rfl), rfl, rfl⟩ fun b o x => Heap.get?_push_of_some _ (Heap.get?_push_of_some _ x)⟩
theorem call_enumC {c : Cp} {xs : List V} {t : Tok} {Q : Value → Shared → Prop} (sc : c.src s.heap xs)
    (h : ∀ h', IsEnum h' (s.heap.objs.size + 1) s.heap.objs.size 0 .none → c.itr h' s.heap.objs.size 0 → (∀ b o, s.heap.get? b = some o → h'.get? b = some o) → Q (.ref (s.heap.objs.size + 1)) { s with heap := h' }) :
    wpAny (model prog w) A (call (.type "enumerate") [c.value t]) Q E s := by
  cases c with
  | lst a => obtain ⟨its, _, p⟩ := sc; exact call_enumerate_list p fun h' a b _ k => h h' a b k
  | tup a => obtain ⟨its, _, p⟩ := sc; exact call_enum_tup p fun h' a b k => h h' a b k
  | txt x => exact call_enumerate_str fun h' a b _ k => h h' a ⟨t, b⟩ k
end
section
variable {X : Cx}
def iEnum (K : PySem.W.Frag) (ta : TA) : TI := fun σ H R => ta σ H fun vs H1 => ∃ c xs, vs = [c.val] ∧ c.at K H1 xs ∧ R (Ite K c) H1
theorem pi_enum {a : Expr} {ta : TA} {p pos : Pos} {elts : List Expr} {k : Nat} {tpos : Pos} (hg : Gl X "enumerate") (hm : X.mg "enumerate" = none) (ha : PA X [a] ta)
    (hs : starEach [a] X.env = [(false, eval a X.env)] := by rfl) : PI X (.Tuple elts k tpos) (.Call (.Name "enumerate" p) [a] [] pos) (iEnum X.K ta) := by
  intro pins s σ H R I h
  refine Call_ (ld_blt I hg hm boot_enumerate (PyProof.Rows.callWith_type1 (thn (ha pos pins s σ H _ I h) fun us s1 ⟨vs, H1, I1, r1, q1⟩ => ?_) hs rfl))
  obtain ⟨c, xs, e, hx, q⟩ := q1
  subst e
  obtain ⟨u, rfl, ru⟩ := vals1 r1
  obtain ⟨t, rfl⟩ := Cp.value_of ru
  have sc := Cp.src_of I1 hx
  refine call_enumC sc fun h' he hi kk => wpAny_pyIter_enum he ?_
  have hei : s1.heap.objs.size + 1 ≠ s1.heap.objs.size := Nat.ne_of_gt (Nat.lt_succ_self _)
  refine ⟨_, [s1.heap.objs.size + 1, s1.heap.objs.size], _, _, H1, rfl, I1.kept (t' := s1.toks) kk, turn_enum hei, ⟨⟨_, he⟩, hi⟩, fun b hb => ?_, q⟩
  have le : s1.heap.objs.size ≤ b := by
    simp only [List.mem_cons, List.not_mem_nil, or_false] at hb
    rcases hb with rfl | rfl
    · exact Nat.le_add_right _ _
    · exact Nat.le_refl _
  exact I1.fpOk le (I1.hok.fresh le)
theorem for_enum {K : PySem.W.Frag} {c : Cp} {xs : List V} {g : TG} {tb : TS} {D : Ends} {σ : St} {H : Hp} (Pv : Nat → St → Hp → Prop) (h0 : Pv 0 σ H) (hl : ∀ i σ H, i ≤ xs.length → Pv i σ H → c.at K H xs)
    (hs : ∀ (i : Nat) x p σ H, xs[i]? = some x → H p = none → Pv i σ H → g (.ref p) σ (upd H p (.tup [.int (i : Int), x])) fun σ2 H2 => tb { D with nx := Pv (i + 1), ct := Pv (i + 1), bk := D.nx } σ2 H2)
    (hd : ∀ σ H, Pv xs.length σ H → D.nx σ H) :
    ∃ W : Nat → Nat → St → Hp → Prop, (∃ m, W 0 m σ H) ∧ ∀ i m σ H, W i m σ H →
      ((Ite K c).stop i H ∧ D.nx σ H) ∨ ((Ite K c).go i H ∧ ∃ N : St → Hp → Prop, (∀ σ' H', N σ' H' → ∃ m', m' < m ∧ W (i + 1) m' σ' H') ∧ ∀ y H', (Ite K c).yld i H y H' → g y σ H' fun σ2 H2 => tb { D with nx := N, ct := N, bk := D.nx } σ2 H2) := by
  refine ⟨fun i m σ H => m = xs.length - i ∧ i ≤ xs.length ∧ Pv i σ H, ⟨xs.length, by simp, Nat.zero_le _, h0⟩, ?_⟩
  rintro i m σ H ⟨rfl, hi, p⟩
  have zx := hl i σ H hi p
  by_cases hlt : i < xs.length
  · refine .inr ⟨⟨xs, xs[i], zx, by simp [hlt]⟩, Pv (i + 1), fun σ' H' p' => ⟨xs.length - (i + 1), by omega, rfl, hlt, p'⟩, fun v H' q => ?_⟩
    obtain ⟨a, x, rfl, ha, rfl, e⟩ := q
    exact hs i x a σ H (e xs zx) ha p
  · have e : i = xs.length := by omega
    subst e
    exact .inl ⟨⟨xs, zx, Nat.le_refl _⟩, hd σ H p⟩
end
end L2

namespace L2
open PySem PySem.Spec PyProof.Rows
set_option maxRecDepth 100000
section
variable {prog : Program} {w : World} {A : Around} {R : Result → Shared → Prop} {I : Addr} {fp wr : List Addr} {G : Array GenState → Array GenState → Prop} {n : Nat} {P : Nat → Value → Prop} {St : Nat → Shared → Prop}
end
section
variable {prog : Program} {w : World} {A : Around} {E : Value → Shared → Prop} {s : Shared}
end
end L2

namespace L2
open PySem PySem.Spec PyProof.Rows
section
variable {X : Cx}
end
end L2

namespace L2
open PySem PySem.Spec PyProof.Rows
/-! ### a loop over a list, a tuple or a text, whichever it is -/
def Itc (K : PySem.W.Frag) (c : Cp) : It :=
  ⟨fun i H => ∃ xs x, c.at K H xs ∧ xs[i]? = some x, fun i H x H' => H' = H ∧ ∀ xs, c.at K H xs → xs[i]? = some x, fun i H => ∃ xs, c.at K H xs ∧ xs.length ≤ i⟩
theorem Turn.conv {P : Program} {w : World} {K : PySem.W.Frag} {tg : Expr} {J J' : It} {fp : List Addr} {it : Addr} {tn : Nat → Heap → Prop} (T : Turn P w K tg J fp it tn)
    (hg : ∀ i H, J'.go i H → J.go i H) (hy : ∀ i H x H', J.yld i H x H' → J'.yld i H x H') (hs : ∀ i H, J'.stop i H → J.stop i H) : Turn P w K tg J' fp it tn where
  mem := T.mem
  obj := T.obj
  keep := T.keep
  item := fun X hP hw hK hc i pins s σ H E I hf st g => wpAny_mono (T.item X hP hw hK hc i pins s σ H E I hf st (hg i H g)) (fun r s1 ⟨u, hr, h⟩ => ⟨u, hr, wpAny_mono h (fun _ s2 ⟨x, H', I', r', y, t', n'⟩ => ⟨x, H', I', r', hy i H x H' y, t', n'⟩) fun _ _ z => z⟩) fun _ _ z => z
  done := fun X hP hw hK hc i pins s σ H E I hf st g => T.done X hP hw hK hc i pins s σ H E I hf st (hs i H g)
  self := T.self
theorem signs_length (x : Str) : (signsV x).length = x.cps.size := by simp [signsV]
theorem signs_at {x : Str} {i k : Nat} (h : x.cps[i]? = some k) : (signsV x)[i]? = some (.str ⟨#[k]⟩) := by
  unfold signsV
  rw [List.getElem?_map]
  have e : x.cps.toList[i]? = some k := by simpa using h
  rw [e]
  rfl
section
variable {X : Cx} {tg : Expr}
def iCp (K : PySem.W.Frag) (tl : TE) : TI := fun σ H R => tl σ H fun v H1 => ∃ c xs, v = Cp.val c ∧ c.at K H1 xs ∧ R (Itc K c) H1
theorem pi_cp {l : Expr} {tl : TE} (hl : PE X l tl) : PI X tg l (iCp X.K tl) := by
  intro pins s σ H R I h
  refine thn (hl pins s σ H _ I h) fun v s1 ⟨y, H1, I1, r1, q1⟩ => ?_
  obtain ⟨c, xs, e, hq, q⟩ := q1
  subst e
  have fp1 : ∀ b ∈ [s1.heap.objs.size], FpOk X pins H1 b := fun b hb => by
    have e : b = s1.heap.objs.size := by simpa using hb
    subst e
    exact I1.fpOk (Nat.le_refl _) (I1.hok.fresh (Nat.le_refl _))
  cases c with
  | lst a =>
    cases (show v = Value.ref a from r1)
    obtain ⟨its, rv, p, hz⟩ := I1.list hq
    refine wpAny_pyIter_list p.isList ?_
    exact ⟨s1.heap.objs.size, [s1.heap.objs.size], _, _, H1, rfl, I1.kept (t' := s1.toks) fun b o e => Heap.get?_push_of_some _ e, turn_list a _, ⟨_, Heap.get?_push_size _ rfl, rfl, rfl⟩, fp1, q⟩
  | tup a =>
    cases (show v = Value.ref a from r1)
    obtain ⟨its, rv, p, hz⟩ := I1.tuple hq
    refine wpAny_pyIter_tuple (show s1.heap.IsTuple a its.toArray from p) ?_
    exact ⟨s1.heap.objs.size, [s1.heap.objs.size], _, _, H1, rfl, I1.kept (t' := s1.toks) fun b o e => Heap.get?_push_of_some _ e, turn_tuple a _, ⟨_, Heap.get?_push_size _ rfl, rfl, rfl⟩, fp1, q⟩
  | txt x =>
    obtain ⟨t, rfl⟩ := (show ∃ t, v = Value.str x t from r1)
    refine wpAny_pyIter_strU ?_
    refine ⟨s1.heap.objs.size, [s1.heap.objs.size], _, _, H1, rfl, I1.kept (t' := s1.toks) fun b o e => Heap.get?_push_of_some _ e, (turn_txt x t _).conv ?_ ?_ ?_, ⟨_, Heap.get?_push_size _ rfl, rfl, rfl⟩, fp1, q⟩
    · rintro i H ⟨xs, y, hx, e⟩
      rw [show xs = signsV x from hx] at e
      have := (List.getElem?_eq_some_iff.mp e).1
      rw [signs_length] at this
      exact this
    · rintro i H y H' ⟨rfl, k, e, rfl⟩
      refine ⟨rfl, fun xs hx => ?_⟩
      rw [show xs = signsV x from hx]
      exact signs_at e
    · rintro i H ⟨xs, hx, e⟩
      rw [show xs = signsV x from hx, signs_length] at e
      exact e
theorem for_cp {K : PySem.W.Frag} {c : Cp} {xs : List V} {g : TG} {tb : TS} {D : Ends} {σ : St} {H : Hp} (Pv : Nat → St → Hp → Prop) (h0 : Pv 0 σ H) (hl : ∀ i σ H, i ≤ xs.length → Pv i σ H → c.at K H xs)
    (hs : ∀ i x σ H, xs[i]? = some x → Pv i σ H → g x σ H fun σ2 H2 => tb { D with nx := Pv (i + 1), ct := Pv (i + 1), bk := D.nx } σ2 H2) (hd : ∀ σ H, Pv xs.length σ H → D.nx σ H) :
    ∃ W : Nat → Nat → St → Hp → Prop, (∃ m, W 0 m σ H) ∧ ∀ i m σ H, W i m σ H →
      ((Itc K c).stop i H ∧ D.nx σ H) ∨ ((Itc K c).go i H ∧ ∃ N : St → Hp → Prop, (∀ σ' H', N σ' H' → ∃ m', m' < m ∧ W (i + 1) m' σ' H') ∧ ∀ x H', (Itc K c).yld i H x H' → g x σ H' fun σ2 H2 => tb { D with nx := N, ct := N, bk := D.nx } σ2 H2) := by
  refine ⟨fun i m σ H => m = xs.length - i ∧ i ≤ xs.length ∧ Pv i σ H, ⟨xs.length, by simp, Nat.zero_le _, h0⟩, ?_⟩
  rintro i m σ H ⟨rfl, hi, p⟩
  have q := hl i σ H hi p
  by_cases hlt : i < xs.length
  · refine .inr ⟨⟨xs, xs[i], q, by simp [hlt]⟩, Pv (i + 1), fun σ' H' p' => ⟨xs.length - (i + 1), by omega, rfl, hlt, p'⟩, fun x H' y => ?_⟩
    obtain ⟨e, y⟩ := y
    subst e
    exact hs i x σ _ (y xs q) p
  · have e : i = xs.length := by omega
    subst e
    exact .inl ⟨⟨xs, q, Nat.le_refl _⟩, hd σ H p⟩
end
end L2

namespace GwM
end GwM

namespace GP
open PySem L2 GwM
/-! ### what prices look like in the heap -/
abbrev Fra := Int × Int
theorem Same.upd {H : Hp} {q : Addr} {o : HO} (h : H q = none) : Same H (L2.upd H q o) := fun b u e => by rw [upd_ne (ne_of_none e h)]; exact e
theorem Same.at {H H2 : Hp} {t : Addr} {o : HO} (e : Same H H2) (h : H t = none) : Same H (L2.upd H2 t o) := fun b u q => by rw [upd_ne (ne_of_none q h)]; exact e b u q
theorem Same.tup {K : PySem.W.Frag} {H H' : Hp} {a : Addr} {xs : List V} (e : Same H H') (h : SqT K H a xs) : SqT K H' a xs := by
  rcases h with (h | ⟨o, h⟩) | h
  · exact .inl (.inl (e _ _ h))
  · exact .inl (.inr ⟨o, e _ _ h⟩)
  · exact .inr h
def FrAt (K : PySem.W.Frag) (H : Hp) (p : Addr) (f : Fra) : Prop := SqT K H p [.int f.1, .int f.2]
theorem take_snoc {α : Type} {l : List α} {i : Nat} {x : α} (h : l[i]? = some x) : l.take (i + 1) = l.take i ++ [x] := by
  rw [List.take_add_one, h]; rfl
/-! ### tests -/
theorem ite_ne {i j : Int} {A B : Prop} (h1 : i ≠ j → A) (h2 : i = j → B) : if (!decide (V.int i = V.int j)) = true then A else B := by
  by_cases h : i = j
  · rw [dec_int, if_neg (by simp [h])]; exact h2 h
  · rw [dec_int, if_pos (by simp [h])]; exact h1 h
theorem ite_eq {i j : Int} {A B : Prop} (h1 : i = j → A) (h2 : i ≠ j → B) : if (decide (V.int i = V.int j)) = true then A else B := by
  by_cases h : i = j
  · rw [dec_int, if_pos (by simp [h])]; exact h1 h
  · rw [dec_int, if_neg (by simp [h])]; exact h2 h
theorem ite_dec {p : Prop} [Decidable p] {A B : Prop} (h1 : p → A) (h2 : ¬ p → B) : if (decide p) = true then A else B := by
  by_cases h : p
  · rw [if_pos (decide_eq_true h)]; exact h1 h
  · rw [if_neg (by rw [decide_eq_false h]; exact Bool.false_ne_true)]; exact h2 h
theorem iteNF {A B : Prop} (h : A) : if (!false) = true then A else B := by
  rw [if_pos (show (!false) = true from rfl)]; exact h
theorem iteNT {A B : Prop} (h : B) : if (!true) = true then A else B := by
  rw [if_neg (by decide)]; exact h
/-! ### names -/
structure Dn (K : PySem.W.Frag) (mg : Str → Option Value) (x : Str) (st : Stmt) (ps : List Str) (f : Addr) (fd : FuncData) : Prop where
  fn : Fun K x x st f fd
  b : Binds K fd ps []
  m : mg x = some (.ref f)
end GP

namespace GP
open PySem L2 GwM
/-! ### methods, data that stays -/
structure Dm (K : PySem.W.Frag) (x qual : Str) (st : Stmt) (ps : List Str) (f : Addr) (fd : FuncData) : Prop where
  fn : Fun K x qual st f fd
  b : Binds K fd ps []
/-! ### signs -/
def isSignN (n : Nat) : Bool := (decide ((32 : Int) ≤ (n : Int)) && decide ((n : Int) ≤ 126)) && !inV (.int n) [.int 34, .int 37, .int 45]
def Signs (x : Str) : Prop := 0 < x.cps.size ∧ x.cps.size ≤ 100 ∧ (∀ c ∈ x.cps.toList, isSignN c = true) ∧ x.cps.toList.Nodup
/-! ### what a def of prices promises -/
def spIsSign : Sp := fun vs H Q _ => ∃ c : Nat, vs = [.str ⟨#[c]⟩] ∧ Q (.bl (isSignN c)) H
def spAreSigns : Sp := fun vs H Q _ => ∃ x : Str, vs = [.str x] ∧ x.cps.size ≤ 1000 ∧ ∀ H', Same H H' → Q (.bl (x.cps.toList.all isSignN)) H'
end GP

namespace GP
open PySem L2 GwM
theorem map_at {α β : Type} {l : List α} {g : α → β} {i : Nat} {y : β} (h : (l.map g)[i]? = some y) : ∃ x, l[i]? = some x ∧ y = g x := by
  rw [List.getElem?_map] at h
  cases e : l[i]? with
  | none => rw [e] at h; cases h
  | some x => rw [e] at h; exact ⟨x, rfl, (Option.some.inj h).symm⟩
end GP

namespace GP
open PySem L2 GwM
end GP

namespace GP
open PySem L2 GwM
end GP

namespace L2
open PySem PySem.Spec PyProof.Rows
/-! ### names seen in a block, decided -/
def freeB (scope : Scope) (X : Cx) : Bool := scope.names.all fun y => (y.2 != NameKind.free) || (X.env.scope.names.lookup y.1 == some NameKind.cell)
def ixB (scope : Scope) (X : Cx) (N : List Str) (nt : Nat) (ix : List Nat) : Bool := (List.range ix.length).all fun k => match N[nt + k]?, ix[k]? with
  | some x, some j => (X.N[j]? == some x) && (scope.names.contains (x, NameKind.free)) && ((relabel scope X.env).names.lookup x == some NameKind.cell)
  | _, _ => false
theorem CompSc.freeB {X : Cx} {scope : Scope} {N : List Str} {nt : Nat} {ix : List Nat} (kind : scope.kind = .function) (cell : ∀ y ∈ scope.names, y.2 = .cell → (y.1, NameKind.free) ∉ scope.names)
    (names : ∀ y ∈ scope.names, y.2 = .local → scope.names.lookup y.1 = some .local) (hf : L2.freeB scope X = true) (hl : N.length = nt + ix.length) (hx : ixB scope X N nt ix = true) (ok : X.Ok) :
    ∃ cl, CompSc X scope cl N (st0 nt ix) := by
  refine CompSc.free kind cell names (fun y hy hk => ?_) hl (fun k j hj => ?_) ok
  · have z := List.all_eq_true.mp hf y hy
    rw [hk] at z
    have z2 : X.env.scope.names.lookup y.1 = some NameKind.cell := by simpa using z
    exact z2
  · have hk : k < ix.length := (List.getElem?_eq_some_iff.mp hj).1
    have z := List.all_eq_true.mp hx k (List.mem_range.mpr hk)
    have hn : nt + k < N.length := by omega
    rw [List.getElem?_eq_getElem hn, hj] at z
    simp only [Bool.and_eq_true] at z
    obtain ⟨⟨z1, z2⟩, z3⟩ := z
    exact ⟨_, List.getElem?_eq_getElem hn, by simpa using z1, by simpa using z2, by simpa using z3⟩
theorem Kp.set0 {r : St} {v : Option V} : Kp (none :: r) ((none :: r).set 0 v) := fun i x e => by
  cases i with
  | zero => cases e
  | succ i => exact e
theorem call_isinstS {X : Cx} : CallR X (.builtin "isinstance") (fun xs H Q => ∃ x n t b, xs = [x, .ty n] ∧ (TyOf X.K H x t ∨ ∃ a ys, x = .ref a ∧ SqT X.K H a ys ∧ t = .type "tuple") ∧ PySem.W.kitOne X.K t (.type n) = some b ∧ Q (.bl b) H) := by
  intro pins s σ H xs us Q I r h
  obtain ⟨x, n, t, b, rfl, ty, e, q⟩ := h
  obtain ⟨u, w', rfl, rx, rn⟩ := vals2 r
  cases rn
  rcases ty with ty | ⟨a, ys, rfl, hs, rfl⟩
  · exact TK.wpAny_up (Nat.le_refl s.toks) (isinst_ok I rx ty e fun tk hup => ⟨.bl b, H, I.tok _, rfl, q⟩)
  · cases (show u = Value.ref a from rx)
    obtain ⟨its, _, ⟨o, h1, h2, _⟩, _⟩ := I.tuple hs
    exact TK.wpAny_up (Nat.le_refl s.toks) (PySem.W.kia_one PySem.W.kitx_tuple I.kIn ⟨o, h1, h2⟩ e (fun z => nomatch z) fun tk hup => ⟨.bl b, H, I.tok _, rfl, q⟩)
end L2
namespace GP
open PySem L2 GwM
theorem kit_same {K : PySem.W.Frag} {t : Value} : PySem.W.kitOne K t t = some true := by unfold PySem.W.kitOne; rw [if_pos (by simp)]
theorem kit_int_bool {K : PySem.W.Frag} : PySem.W.kitOne K (.type "int") (.type "bool") = some false := by kernel_rfl
theorem kit_int_dict {K : PySem.W.Frag} : PySem.W.kitOne K (.type "int") (.type "dict") = some false := by kernel_rfl
theorem kit_int_list {K : PySem.W.Frag} : PySem.W.kitOne K (.type "int") (.type "list") = some false := by kernel_rfl
theorem kit_int_tuple {K : PySem.W.Frag} : PySem.W.kitOne K (.type "int") (.type "tuple") = some false := by kernel_rfl
theorem kit_int_str {K : PySem.W.Frag} : PySem.W.kitOne K (.type "int") (.type "str") = some false := by kernel_rfl
theorem kit_tuple_dict {K : PySem.W.Frag} : PySem.W.kitOne K (.type "tuple") (.type "dict") = some false := by kernel_rfl
theorem kit_tuple_list {K : PySem.W.Frag} : PySem.W.kitOne K (.type "tuple") (.type "list") = some false := by kernel_rfl
/-! ### the heap without the counter -/
def Wo (t : Addr) (H : Hp) : Hp := fun b => if b = t then none else H b
theorem Wo.sub {t : Addr} {H : Hp} : Same (Wo t H) H := fun b u h => by
  unfold Wo at h
  by_cases e : b = t
  · rw [if_pos e] at h; cases h
  · rw [if_neg e] at h; exact h
theorem Wo.ne {t : Addr} {H : Hp} {b : Addr} {u : HO} (h : Wo t H b = some u) : b ≠ t := fun e => by
  unfold Wo at h
  rw [if_pos e] at h; cases h
theorem Wo.in {t : Addr} {H : Hp} {b : Addr} {u : HO} (n : b ≠ t) (h : H b = some u) : Wo t H b = some u := by
  unfold Wo
  rw [if_neg n]; exact h
theorem Wo.free {t : Addr} {H : Hp} {b : Addr} (h : H b = none) : Wo t H b = none := by
  unfold Wo
  split
  · rfl
  · exact h
theorem Wo.set {t : Addr} {H : Hp} {o : HO} : Wo t (L2.upd H t o) = Wo t H := by
  funext b
  unfold Wo
  by_cases e : b = t
  · rw [if_pos e, if_pos e]
  · rw [if_neg e, if_neg e, upd_ne e]
theorem Wo.same {t : Addr} {H H' : Hp} (e : Same H H') : Same (Wo t H) (Wo t H') := fun b u h => Wo.in (Wo.ne h) (e b u (Wo.sub b u h))
theorem Wo.upd {t : Addr} {H : Hp} {o : HO} : Same (Wo t H) (L2.upd H t o) := fun b u h => by rw [upd_ne (Wo.ne h)]; exact Wo.sub b u h
/-! ### the script and the counter -/
structure Ctr (K : PySem.W.Frag) (H : Hp) (s t : Addr) (ns : List Int) (k : Int) : Prop where
  sq : SqL K (Wo t H) s (ns.map V.int)
  len : ns.length ≤ 63
  at_ : H t = some (.lst [.int k])
  k0 : 0 ≤ k
theorem Ctr.scr {K : PySem.W.Frag} {H : Hp} {s t : Addr} {ns : List Int} {k : Int} (c : Ctr K H s t ns k) : SqL K H s (ns.map V.int) := Same.seq Wo.sub c.sq
theorem Ctr.scr' {K : PySem.W.Frag} {H : Hp} {s t : Addr} {ns : List Int} {k : Int} (c : Ctr K H s t ns k) (o : HO) : SqL K (L2.upd H t o) s (ns.map V.int) := Same.seq Wo.upd c.sq
theorem Ctr.same {K : PySem.W.Frag} {H H' : Hp} {s t : Addr} {ns : List Int} {k : Int} (c : Ctr K H s t ns k) (e : Same H H') : Ctr K H' s t ns k := ⟨Same.seq (Wo.same e) c.sq, c.len, e _ _ c.at_, c.k0⟩
theorem Ctr.step {K : PySem.W.Frag} {H : Hp} {s t : Addr} {ns : List Int} {k k' : Int} (c : Ctr K H s t ns k) (h : 0 ≤ k') : Ctr K (L2.upd H t (.lst [.int k'])) s t ns k' := ⟨by rw [Wo.set]; exact c.sq, c.len, upd_same, h⟩
theorem Ctr.off {K : PySem.W.Frag} {H H' : Hp} {s t : Addr} {ns : List Int} {k k' : Int} (c : Ctr K H s t ns k) (e : Same (Wo t H) (Wo t H')) (h : H' t = some (.lst [.int k'])) (h0 : 0 ≤ k') : Ctr K H' s t ns k' := ⟨Same.seq e c.sq, c.len, h, h0⟩
/-! ### promises of the law's defs -/
def spNext (K : PySem.W.Frag) : Sp := fun vs H Q _ => ∃ (s t : Addr) (ns : List Int) (k : Int), vs = [.ref s, .ref t] ∧ Ctr K H s t ns k ∧ k ≤ 100000 ∧
  ∀ m : Int, 0 ≤ m → m < 1999999973 → Q (.int m) (L2.upd H t (.lst [.int (k + 1)]))
def spSigns (K : PySem.W.Frag) : Sp := fun vs H Q _ => ∃ (s t : Addr) (ns : List Int) (k n : Int), vs = [.ref s, .ref t, .int n] ∧ Ctr K H s t ns k ∧ k ≤ 100000 ∧ 1 ≤ n ∧ n ≤ 12 ∧
  ∀ sg, Signs sg → sg.cps.size ≤ 12 → Q (.str sg) (L2.upd H t (.lst [.int (k + 1)]))
def spLaw (K : PySem.W.Frag) : Sp := fun vs H Q _ => ∃ (a : Addr) (ns : List Int), vs = [.ref a] ∧ SqL K H a (ns.map V.int) ∧ ns.length ≤ 63 ∧ ∀ H', Q (.bl true) H'
end GP

namespace L2
open PySem PySem.Spec PyProof.Rows
set_option maxHeartbeats 2000000 in
theorem comp_core {X : Cx} {elt tg iter : Expr} {scope : Scope} {pos pos' : Pos} {wi : TI} {g : TG} {te : TE} {N : List Str} {σ0 : St → St} (hc : X.calm = true) (hS : X.Ok → ∃ cl, CompSc X scope cl N σ0) (hi : PI X tg iter wi)
    (hg : ∀ cl C s H ex pn E, PG (cxComp X scope cl C N s H ex pn E) tg g) (he : ∀ cl C s H ex pn E, PE (cxComp X scope cl C N s H ex pn E) elt te) (hs : ∀ x, foldedSetIterable iter X.env x = pure x)
    {pins : List (Addr × Obj)} {s : Shared} {σ : St} {H : Hp} {Q : VK} {use : Option (Value → Sem Unit)} {QQ : Value → Shared → Prop} (I : Inv X pins σ H s) (h : tComp wi g te σ0 σ H Q)
    (hfin : ∀ (l C : Addr) (mC : Str → Option Value) (H' : Hp) (s' : Shared), Inv X pins σ H' s' → FpOk X pins H' C → s'.heap.Ns C mC → Q (.ref l) H' → compPost (model X.prog X.w) X.A X.xe use QQ (.ref l) C (.ok .next) s') :
    wpAny (model X.prog X.w) X.A (comprehension (.ListComp elt [⟨tg, iter, [], 0⟩] scope pos) scope X.env pos' (newList []) false (eval iter X.env) use) QQ X.xe s := by
  obtain ⟨cl, S⟩ := hS I.ok
  refine wpAny_comprehension_free (use := use) rfl hs S.clos S.kind S.names (thn (hi pins s σ H _ I h) fun v s1 h1 => thn h1 fun itv s2 h2 => ?_)
  obtain ⟨it, fp, tn, J, H2, e, I2, T, st2, f2, hq⟩ := h2
  subst e
  obtain ⟨W, ⟨m0, w0⟩, turn⟩ := hq _ I2.fresh
  refine wpAny_newObj_type (comp_env S fun cl' h₁ G hns₁ kp => ?_)
  have I3 : Inv X pins σ (upd H2 s2.heap.objs.size (.lst [])) { s2 with heap := s2.heap.push { cls := .type "list", data := .seq ([] : List Value).toArray } } := I2.lnew (t' := s2.toks) .nil (Nat.zero_le _)
  have old23 : ∀ b o, s2.heap.get? b = some o → (s2.heap.push { cls := .type "list", data := .seq ([] : List Value).toArray }).get? b = some o := fun b o e => Heap.get?_push_of_some _ e
  have f3 : ∀ b ∈ fp, FpOk X pins (upd H2 s2.heap.objs.size (.lst [])) b ∧ b < (s2.heap.push { cls := .type "list", data := .seq ([] : List Value).toArray }).objs.size := fun b hb => by
    obtain ⟨o, ho, _⟩ := T.obj _ _ st2 b hb
    have hlt := Heap.lt_size ho
    obtain ⟨f0, f1⟩ := f2 b hb
    exact ⟨⟨by rw [upd_ne (Nat.ne_of_lt hlt)]; exact f0, f1⟩, Heap.lt_size (old23 b o ho)⟩
  have st3 : tn 0 h₁ := T.keep _ _ _ st2 fun b _ o e => kp b o (old23 b o e)
  generalize hR : (fun r s' => compPost (model X.prog X.w) X.A X.xe use QQ (.ref s2.heap.objs.size) (s2.heap.push { cls := .type "list", data := .seq ([] : List Value).toArray }).objs.size r s') = R
  generalize hX' : cxComp X scope cl' (s2.heap.push { cls := .type "list", data := .seq ([] : List Value).toArray }).objs.size N { s2 with heap := s2.heap.push { cls := .type "list", data := .seq ([] : List Value).toArray } }
    (upd H2 s2.heap.objs.size (.lst [])) fp (X.pn ++ pins) (notedBy (model X.prog X.w) X.A (compEnvC scope cl' (s2.heap.push { cls := .type "list", data := .seq ([] : List Value).toArray }).objs.size X.env) fun e s' => R (.error e) s') = X'
  have I4 : Inv X' [] (σ0 σ) (upd H2 s2.heap.objs.size (.lst [])) { s2 with heap := h₁ } := by
    subst hX'
    exact inv_comp (s := { s2 with heap := s2.heap.push { cls := .type "list", data := .seq ([] : List Value).toArray } }) S G I3 f3 kp hns₁ s2.toks
  have PG' : PG X' tg g := by subst hX'; exact hg _ _ _ _ _ _ _
  have PE' : PE X' elt te := by subst hX'; exact he _ _ _ _ _ _ _
  have stat : ∀ {H' : Hp}, (∀ b ∈ fp, H' b = none) → ∀ b ∈ fp, FpOk X' [] H' b := fun hn b hb => by
    subst hX'
    obtain ⟨⟨_, f1, fn, _, f4, f5⟩, lt⟩ := f3 b hb
    refine ⟨hn b hb, Nat.ne_of_lt lt, fun z => ?_, .inl hb, fun x c e => (G.look x c e).elim (fun z => Nat.ne_of_gt (Nat.lt_trans lt z.1)) fun z => f4 x c (S.sub x c z), fun p hp => f5 p ?_⟩
    · rcases List.mem_cons.mp (I3.stkSub b z) with q | q
      · exact f1 q
      · exact fn q
    · rcases List.mem_append.mp hp with z | z
      · exact z
      · cases z
  have hp1 : X'.prog = X.prog := by subst hX'; rfl
  have hp2 : X'.w = X.w := by subst hX'; rfl
  have hp3 : X'.K = X.K := by subst hX'; rfl
  have hp4 : X'.calm = true := by subst hX'; exact hc
  have hp5 : X'.A = X.A := by subst hX'; rfl
  have hp6 : X'.env = compEnvC scope cl' (s2.heap.push { cls := .type "list", data := .seq ([] : List Value).toArray }).objs.size X.env := by subst hX'; rfl
  have hp7 : X'.xe = notedBy (model X.prog X.w) X.A X'.env fun e s' => R (.error e) s' := by subst hX'; rfl
  -- the end
  have fin : ∀ {H' : Hp} {s' : Shared}, Inv X' [] (σ0 σ) H' s' → Q (.ref s2.heap.objs.size) H' → R (.ok .next) s' := by
    intro H' s' I5 q
    subst hR
    obtain ⟨mC, hnC, _⟩ := I5.loc
    rw [hp6] at hnC
    have hok : HOk X.prog X.w H' s'.heap := by
      have z := I5.hok
      rw [hp1, hp2] at z
      exact z
    have u : Un (frs X.stack) fp (upd H2 s2.heap.objs.size (.lst [])) H' (s2.heap.push { cls := .type "list", data := .seq ([] : List Value).toArray }) s'.heap := by
      have z := I5.base
      subst hX'
      exact z
    have hC : H' (s2.heap.push { cls := .type "list", data := .seq ([] : List Value).toArray }).objs.size = none := by
      have zf := I5.free
      rw [hp6] at zf
      exact zf
    refine hfin _ _ mC H' s' (I3.call' (ch := fp) (s' := s') (by have z := I5.os; subst hX'; exact z) u hok I5.bare (fun b hb => ?_) (by have z := I5.up; subst hX'; exact Nat.le_trans I3.up z)) (I3.fpOk (Nat.le_refl _) hC) hnC q
    obtain ⟨⟨_, f1, _, f3', f4, f5⟩, _⟩ := f3 b hb
    exact ⟨f3', f1, f4, f5⟩
  -- the loop
  have loop : ∀ s3 : Shared, Inv X' [] (σ0 σ) (upd H2 s2.heap.objs.size (.lst [])) s3 → tn 0 s3.heap →
      codeAny (model X.prog X.w) X.A (.compLoop (.ListComp elt [⟨tg, iter, [], 0⟩] scope pos) 0 (.ref it) (.ref s2.heap.objs.size) X'.env) R s3 := by
    intro s3 J3 t3
    refine codeAny_loop rfl (fun n s' => ∃ i ys H', Inv X' [] (σ0 σ) H' s' ∧ tn i s'.heap ∧ (∀ b ∈ fp, H' b = none) ∧ W i n ys H') ?_ m0 ⟨0, [], _, J3, t3, fun b hb => (f3 b hb).1.1, w0⟩
    rintro n s4 ⟨i, ys, H4, J4, t4, n4, w4⟩
    show wpAny _ _ ((compTurn (.ListComp elt [⟨tg, iter, [], 0⟩] scope pos) 0 (.ref it) (.ref s2.heap.objs.size) X'.env).onRaise (fun x => do noteFrame x X'.env; theTreesLotGoes x)) _ _ s4
    refine wpAny_noted ?_
    rw [compTurn_list1]
    refine wpAny_bind (wpAny_standAt (wpAny_bind ?_))
    rcases turn i n ys H4 w4 with ⟨stop, q⟩ | ⟨go, step⟩
    · have z := T.done X' hp1 hp2 hp3 hp4 i [] s4 (σ0 σ) H4 (notedBy (model X.prog X.w) X.A X'.env fun e s' => R (.error e) s') J4 (stat n4) t4 stop
      rw [hp5] at z
      refine wpAny_mono z (fun r s5 ⟨hr, J5⟩ => ?_) fun _ _ x => x
      subst hr
      exact wpAny_pure (fin J5 q)
    · have z := T.item X' hp1 hp2 hp3 hp4 i [] s4 (σ0 σ) H4 (notedBy (model X.prog X.w) X.A X'.env fun e s' => R (.error e) s') J4 (stat n4) t4 go
      rw [hp5] at z
      refine wpAny_mono z (fun r s5 ⟨u, hr, h5⟩ => ?_) fun _ _ x => x
      subst hr
      refine wpAny_bind (wpAny_mono h5 (fun _ s6 ⟨x, H6, J6, r6, y6, t6, n6⟩ => ?_) fun _ _ x => x)
      have J6' := J6.pinned (stat n6) (T.obj _ _ t6)
      have zg := PG' _ s6 (σ0 σ) H6 x u _ J6' r6 (step x H6 y6)
      rw [hp1, hp2, hp5, hp7] at zg
      refine wpAny_bind (wpAny_mono zg (fun _ s7 ⟨σ7, H7, J7, k7, q7⟩ => ?_) fun _ _ x => x)
      have ze := PE' _ s7 σ7 H7 _ J7 q7
      rw [hp1, hp2, hp5, hp7] at ze
      refine wpAny_bind (wpAny_bind (wpAny_mono ze (fun yv s8 ⟨y, H8, J8, r8, e8, z8, m', hm, w8⟩ => ?_) fun _ _ x => x))
      have za := mt_append (X := X') _ s8 σ7 H8 (.ref s2.heap.objs.size) [y] (.ref s2.heap.objs.size) [yv] (fun _ H9 => H9 = upd H8 s2.heap.objs.size (.lst (ys ++ [y]))) J8 rfl (.cons r8 .nil) ⟨_, ys, y, rfl, rfl, e8, z8, rfl⟩
      rw [hp1, hp2, hp5, hp7] at za
      refine wpAny_bind (wpAny_mono za (fun _ s9 ⟨_, H9, J9, _, e9⟩ => ?_) fun _ _ x => x)
      subst e9
      refine wpAny_pure (wpAny_pure ⟨rfl, m', hm, i + 1, ys ++ [y], _, ?_, ?_, ?_, w8⟩)
      · refine J9.unpin.weak ?_ ?_
        · rw [S.len, J9.len]
          subst hX'
          rfl
        · exact k7
      · exact T.keep _ _ _ t6 fun b hb o e => (J9.pin (b, o) (List.mem_append_right _ (List.mem_append_right _ (mem_pinsAt hb e)))).1
      · intro b hb
        obtain ⟨o, e, d⟩ := T.obj _ _ t6 b hb
        exact (J9.pin (b, o) (List.mem_append_right _ (List.mem_append_right _ (mem_pinsAt hb e)))).2.1
  have l0 := loop _ I4 st3
  have l1 := codeAny_compStart_list l0 (T.self X.A 0 _ _ _ st3 l0)
  rw [hp6] at l1
  subst hR
  exact l1
theorem pe_comp {X : Cx} {elt tg iter : Expr} {scope : Scope} {pos : Pos} {wi : TI} {g : TG} {te : TE} {N : List Str} {σ0 : St → St} (hc : X.calm = true) (hS : X.Ok → ∃ cl, CompSc X scope cl N σ0) (hi : PI X tg iter wi)
    (hg : ∀ cl C s H ex pn E, PG (cxComp X scope cl C N s H ex pn E) tg g) (he : ∀ cl C s H ex pn E, PE (cxComp X scope cl C N s H ex pn E) elt te)
    (hs : ∀ x, foldedSetIterable iter X.env x = pure x := by intro _; rfl) : PE X (.ListComp elt [⟨tg, iter, [], 0⟩] scope pos) (tComp wi g te σ0) := by
  intro pins s σ H Q I h
  rw [eval_ListComp]
  refine comp_core (use := none) (QQ := EP X pins σ Q) hc hS hi hg he hs I h ?_
  intro l C mC H' s' I' fp hn q
  exact ⟨mC, hn, fun h' sb => ⟨.ref l, H', I'.moved (ch := [C]) (t' := s'.toks) (fun b o hb e => (sb.2 b (by simpa using hb)).trans e) (fun b hb => by rw [List.mem_singleton.mp hb]; exact fp), rfl, q⟩⟩
theorem ps_setComp {X : Cx} {i : Nat} {y : Str} {py spos : Pos} {elt tg iter : Expr} {scope : Scope} {pos : Pos} {wi : TI} {g : TG} {te : TE} {N : List Str} {σ0 : St → St} (hN : X.N.Nodup) (hi : X.N[i]? = some y) (hx : Loc X.env.scope y)
    (hc : X.calm = true) (hS : X.Ok → ∃ cl, CompSc X scope cl N σ0) (hit : PI X tg iter wi)
    (hg : ∀ cl C s H ex pn E, PG (cxComp X scope cl C N s H ex pn E) tg g) (he : ∀ cl C s H ex pn E, PE (cxComp X scope cl C N s H ex pn E) elt te)
    (hsw : swapsWith (.ListComp elt [⟨tg, iter, [], 0⟩] scope pos) (some (.Name y py)) spos.line X.env = pure true := by rfl)
    (hf : X.fn y = true ∨ X.env.scope.names.lookup y = some .local := by first | exact .inl rfl | exact .inr rfl | assumption)
    (hs : ∀ x, foldedSetIterable iter X.env x = pure x := by intro _; rfl) : PS X (.Assign [.Name y py] (.ListComp elt [⟨tg, iter, [], 0⟩] scope pos) spos) (tAsg (tComp wi g te σ0) (gName i)) := by
  intro pins s σ H D I h
  rw [exec_Assign_Name_used _ _ _ _ hsw]
  refine wpAny_bind (wpAny_standAt (wpAny_bind ?_))
  show wpAny _ X.A (do let _ ← comprehension (.ListComp elt [⟨tg, iter, [], 0⟩] scope pos) scope X.env _ (newList []) false (eval iter X.env) (some (assign (.Name y py) X.env))) _ _ s
  refine wpAny_bind (wpAny_mono (comp_core (use := some (assign (.Name y py) X.env)) (QQ := fun _ s' => SP X pins D .next s') hc hS hit hg he hs I h ?_) (fun _ s' hq => wpAny_pure (wpAny_pure hq)) fun _ _ e => e)
  intro l C mC H' s' I' fp hn q
  show wpAny _ X.A (assign (.Name y py) X.env (.ref l)) _ _ _
  refine wpAny_assign_Name (store_ok2 I' hN hi hx (v := .ref l) rfl (fun s2 I2 sb => ?_) hf)
  obtain ⟨a, sb, ha⟩ := sb
  have nC : C ≠ a := by
    obtain ⟨_, f1, _, _, f4, _⟩ := fp
    rcases ha with z | z
    · rw [z]; exact f1
    · exact fun e => f4 y a z e.symm
  refine ⟨mC, hn.sameBut sb nC, fun h' sb2 => ?_⟩
  refine ⟨_, H', I2.moved (ch := [C]) (t' := s2.toks) (fun b o hb e => (sb2.2 b (by simpa using hb)).trans e) (fun b hb => ?_), q⟩
  rw [List.mem_singleton.mp hb]
  exact fp
end L2
namespace L2
open PySem PySem.Spec PyProof.Rows
end L2

namespace GP
open PySem L2 GwM
theorem Wo.upd_ne {t q : Addr} {H : Hp} {o : HO} (n : q ≠ t) : Wo t (L2.upd H q o) = L2.upd (Wo t H) q o := by
  funext b
  by_cases e : b = q
  · subst e
    rw [L2.upd_same]
    unfold Wo
    rw [if_neg n, L2.upd_same]
  · rw [L2.upd_ne e]
    unfold Wo
    split
    · rfl
    · rw [L2.upd_ne e]
theorem Wo.back {t r : Addr} {H H' : Hp} {o : HO} (e : Same (Wo t H) (Wo t H')) (ht : H' t = some o) (h : H' r = none) : H r = none := by
  cases q : H r with
  | none => rfl
  | some u =>
    have n : r ≠ t := fun z => by rw [z, ht] at h; cases h
    have z := Wo.sub _ _ (e r u (Wo.in n q))
    rw [h] at z
    cases z
end GP

namespace GP
open PySem L2 GwM
section
variable {K : PySem.W.Frag} {C : Addr} {H0 H H' : Hp} {t l x o m : Addr} {rs : List Addr} {sg : Str} {rows : List (List Fra)} {fo fm : Fra} {k : Int}
end
end GP

namespace L2
open PySem PySem.Spec PyProof.Rows
/-! ### a dict of the module, keys texts: it is only read -/
def KDict (P : Program) (w : World) (K : PySem.W.Frag) (a : Addr) (kvs : List (Key × V)) : Prop := (a == sysModules) = false ∧ ∃ vs, KV kvs vs ∧ ∀ h : Heap, K.In h → h.DictOf (mixKind P w) a vs
def entS (w : World) (x : Str × Tok × Value) : DictEntry := ⟨hashStr w x.1, .str x.1 x.2.1, x.2.2⟩
theorem KDict.mk {P : Program} {w : World} {K : PySem.W.Frag} {a : Addr} {ep : Nat} {es : Array DictEntry} (ys : List (Str × Tok × Value)) {vs : List V} (hk : K.lookup a = some { cls := .type "dict", data := .dict es ep })
    (he : es.toList = ys.map (entS w)) (hn : (ys.map (·.1)).Nodup) (hv : Vals vs (ys.map (·.2.2))) (hs : (a == sysModules) = false) : KDict P w K a ((ys.map (·.1)).zipWith (fun x v => (Sum.inr x, v)) vs) := by
  refine ⟨hs, ys.map fun y => (Sum.inr y.1, y.2.2), ?_, fun h X => ⟨_, es, ep, X a _ hk, ⟨rfl, rfl, rfl⟩, rfl, ?_, ?_, ?_⟩⟩
  · clear hk he hn
    induction ys generalizing vs with
    | nil => cases hv; exact .nil
    | cons y ys ih =>
      cases hv with
      | cons r t => exact .cons ⟨rfl, r⟩ (ih t)
  · intro e hm
    rw [← Array.mem_toList_iff, he] at hm
    obtain ⟨y, _, rfl⟩ := List.mem_map.mp hm
    exact ⟨Sum.inr y.1, mixKind_str P w _ _, rfl⟩
  · rw [he]
    clear hk he hn hv
    induction ys with
    | nil => exact .nil
    | cons y ys ih => exact .cons (mixKind_str P w _ _) rfl ih
  · rw [List.map_map]
    have e : ((fun x : Key × Value => x.1) ∘ fun y : Str × Tok × Value => ((Sum.inr y.1 : Key), y.2.2)) = (fun x : Str => (Sum.inr x : Key)) ∘ (·.1) := rfl
    rw [e, ← List.map_map]
    exact List.Pairwise.map _ (fun a b h z => h (Sum.inr.inj z)) hn
section
variable {X : Cx}
theorem op_notIn_kd : OpR X (compareOp .NotIn) (fun x y H Q => ∃ a kvs k, y = .ref a ∧ x = kV k ∧ KDict X.prog X.w X.K a kvs ∧ Q (.bl (!(valV kvs k).isSome)) H) := by
  intro pins s σ H x y v u Q I rx ry h
  obtain ⟨a, kvs, k, rfl, rfl, ⟨hs, vs, rel, dd⟩, q⟩ := h
  cases ry
  refine wpAny_notIn_of (kV_is rx) hs (dd _ I.kIn).mapOf ?_
  rw [← (rel.val k).isSome_eq]
  exact ⟨.bl _, H, I.tok _, rfl, q⟩
def tKGet (P : Program) (w : World) (K : PySem.W.Frag) (td ty : TE) : TE := fun σ H Q => td σ H fun x H1 => ty σ H1 fun y H2 => ∃ a kvs k v, x = .ref a ∧ y = kV k ∧ KDict P w K a kvs ∧ valV kvs k = some v ∧ Q v H2
theorem pe_kget {o i : Expr} {pos : Pos} {td ty : TE} (ho : PE X o td) (hi : PE X i ty) (hs : NoSl i) : PE X (.Subscript o i pos) (tKGet X.prog X.w X.K td ty) := by
  intro pins s σ H Q I h
  refine subD_of PySem.F.slot_dict_getitem.lookup hs (thn (ho pins s σ H _ I h) fun u s1 ⟨x, H1, I1, rx, q1⟩ => thn (hi pins s1 σ H1 _ I1 q1) fun iv s2 ⟨y, H2, I2, ry, a, kvs, k, v, ex, ey, ⟨hd, vs, rel, dd⟩, l, q2⟩ => ?_)
  subst ex ey
  obtain rfl : u = Value.ref a := rx
  obtain ⟨w', hw, rw'⟩ := RelO.some_of (v := v) (o := valueAt vs k) (by rw [← l]; exact rel.val k)
  have d2 := dd _ I2.kIn
  exact ⟨d2.typeIs, wpAny_getItem_of (kV_is ry) d2.mapOf hw ⟨v, H2, I2.tok _, rw', q2⟩⟩
end
end L2

namespace GP
open PySem L2 GwM
/-! ### layings -/
def TupAt (H : Hp) (q : Addr) (f : Fra) : Prop := H q = some (.tup [.int f.1, .int f.2])
theorem TupAt.same {H H' : Hp} {q : Addr} {f : Fra} (e : Same H H') (h : TupAt H q f) : TupAt H' q f := e _ _ h
theorem TupAt.fr {K : PySem.W.Frag} {H : Hp} {q : Addr} {f : Fra} (h : TupAt H q f) : FrAt K H q f := SqT.of h
theorem TupAt.off {H : Hp} {q l : Addr} {f : Fra} {ys : List V} {o : HO} (hl : H l = some (.lst ys)) (h : TupAt H q f) : TupAt (L2.upd H l o) q f := by
  have n : q ≠ l := ne_of h hl (by intro z; cases z)
  show L2.upd H l o q = _
  rw [L2.upd_ne n]; exact h
def mvOk (c : Nat) : Prop := c = 112 ∨ c = 97 ∨ c = 98
def stp (q : Fra) (c : Nat) : Fra := (q.1 + (if c = 98 then 0 else 1), q.2 + (if c = 97 then 0 else 1))
def pla (q : Fra) (cs : List Nat) (k : Nat) : Fra := (cs.take k).foldl stp q
theorem pla_succ {q : Fra} {cs : List Nat} {k c : Nat} (h : cs[k]? = some c) : pla q cs (k + 1) = stp (pla q cs k) c := by
  unfold pla
  rw [take_snoc h, List.foldl_append]
  rfl
def InR (f s : Str) (q : Fra) : Prop := 0 ≤ q.1 ∧ q.1 ≤ (f.cps.size : Int) ∧ 0 ≤ q.2 ∧ q.2 ≤ (s.cps.size : Int)
structure Way (f s : Str) (b : Fra) (mv : Str) : Prop where
  fs : f.cps.size ≤ 1000
  ss : s.cps.size ≤ 1000
  ms : mv.cps.size ≤ 2000
  ok : ∀ c ∈ mv.cps.toList, mvOk c
  inn : ∀ k, k ≤ mv.cps.size → InR f s (pla b mv.cps.toList k)
theorem cps_lt {x : Str} {i c : Nat} (h : x.cps[i]? = some c) : i < x.cps.size := by
  rw [← Array.getElem?_toList] at h
  have := (List.getElem?_eq_some_iff.mp h).1
  simpa using this
theorem cps_mem {x : Str} {i c : Nat} (h : x.cps[i]? = some c) : c ∈ x.cps.toList := by
  rw [← Array.getElem?_toList] at h
  exact List.mem_of_getElem? h
theorem cps_list {x : Str} {i c : Nat} (h : x.cps[i]? = some c) : x.cps.toList[i]? = some c := by
  rw [Array.getElem?_toList]; exact h
def spCheckPlace (K : PySem.W.Frag) : Sp := fun vs H Q _ => ∃ (f s : Str) (q : Addr) (ij : Fra), vs = [.str f, .str s, .ref q] ∧ FrAt K H q ij ∧ InR f s ij ∧ f.cps.size ≤ 1000 ∧ s.cps.size ≤ 1000 ∧ Q .non H
def spBehind (K : PySem.W.Frag) : Sp := fun vs H Q _ => ∃ (q : Addr) (c : Nat) (ij : Fra), vs = [.ref q, .str ⟨#[c]⟩] ∧ FrAt K H q ij ∧ mvOk c ∧ ∀ r, H r = none → Q (.ref r) (L2.upd H r (.tup [.int (stp ij c).1, .int (stp ij c).2]))
def spPlaces (K : PySem.W.Frag) : Sp := fun vs H Q _ => ∃ (f s : Str) (b : Addr) (ij : Fra) (mv : Str), vs = [.str f, .str s, .ref b, .str mv] ∧ FrAt K H b ij ∧ Way f s ij mv ∧
  ∀ l H' (qs : List Addr), Same H H' → H' l = some (.lst (qs.map V.ref)) → qs.length = mv.cps.size + 1 → (∀ (k : Nat) q, qs[k]? = some q → TupAt H' q (pla ij mv.cps.toList k)) → Q (.ref l) H'
end GP

namespace GP
open PySem L2 GwM
end GP

namespace L2
open PySem PySem.Spec PyProof.Rows
/-! ### an exception's object, with or without a traceback; φ holds of its address and of its traceback's -/
def ExcN (h : Heap) (φ : Addr → Prop) (ea : Addr) (cls : Value) (od : Option Addr) : Prop :=
  φ ea ∧ ∃ vs sl, h.get? ea = some ⟨cls, od, .fields vs, sl⟩ ∧ (vs[1]? = some .none ∨
    ∃ T oT ts, vs[1]? = some (.ref T) ∧ T ≠ ea ∧ φ T ∧ h.get? T = some oT ∧ oT.data = .fields ts ∧ 3 < ts.size)
def ExcT (h : Heap) (φ : Addr → Prop) (ea : Addr) (cls : Value) (od : Option Addr) : Prop :=
  φ ea ∧ ∃ vs sl, h.get? ea = some ⟨cls, od, .fields vs, sl⟩ ∧
    ∃ T oT ts, vs[1]? = some (.ref T) ∧ T ≠ ea ∧ φ T ∧ h.get? T = some oT ∧ oT.data = .fields ts ∧ 3 < ts.size
theorem ExcT.n {h : Heap} {φ : Addr → Prop} {ea : Addr} {cls : Value} {od : Option Addr} (x : ExcT h φ ea cls od) : ExcN h φ ea cls od := by
  obtain ⟨p, vs, sl, e, t⟩ := x
  exact ⟨p, vs, sl, e, .inr t⟩
theorem ExcN.to {h : Heap} {φ ψ : Addr → Prop} {ea : Addr} {cls : Value} {od : Option Addr} (x : ExcN h φ ea cls od) (m : ∀ b, φ b → ψ b) : ExcN h ψ ea cls od := by
  obtain ⟨p, vs, sl, e, t⟩ := x
  refine ⟨m _ p, vs, sl, e, ?_⟩
  rcases t with t | ⟨T, oT, ts, a, b, c, d⟩
  · exact .inl t
  · exact .inr ⟨T, oT, ts, a, b, m _ c, d⟩
structure Noted (fr : List Addr) (φ : Addr → Prop) (h h' : Heap) : Prop where
  keep : ∀ b o, h.get? b = some o → ¬ φ b → b ∉ fr → h'.get? b = some o
  slot : ∀ b o, h.get? b = some o → ¬ φ b → ∃ sl, h'.get? b = some { o with slots := sl }
  there : ∀ b o, h.get? b = some o → ∃ o', h'.get? b = some o'
  size : h.objs.size ≤ h'.objs.size
theorem Noted.refl {fr : List Addr} {φ : Addr → Prop} {h : Heap} : Noted fr φ h h := ⟨fun _ _ e _ _ => e, fun _ o e _ => ⟨o.slots, e⟩, fun _ o e => ⟨o, e⟩, Nat.le_refl _⟩
theorem Noted.trans {fr : List Addr} {φ : Addr → Prop} {h h1 h2 : Heap} (a : Noted fr φ h h1) (b : Noted fr φ h1 h2) : Noted fr φ h h2 where
  keep := fun c o e n f => b.keep c o (a.keep c o e n f) n f
  slot := fun c o e n => by
    obtain ⟨sl, e1⟩ := a.slot c o e n
    obtain ⟨sl', e2⟩ := b.slot c _ e1 n
    exact ⟨sl', e2⟩
  there := fun c o e => by
    obtain ⟨o', e1⟩ := a.there c o e
    exact b.there c o' e1
  size := Nat.le_trans a.size b.size
section
variable {M : Model} {A : Around} {E : Value → Shared → Prop} {s : Shared} {base : Heap} {env e0 : Env} {r : List Env} {L ea : Addr} {φ : Addr → Prop} {cls : Value} {od : Option Addr}
theorem frameOf_top {Q : Value → Shared → Prop} (hs : A.frames = some (e0 :: r)) (hl : s.heap.FunFrames base (e0 :: r)) (h0 : e0.frame = some L) (he : env.frame = some L)
    (h : ∀ h', Heap.SlotsOnly ((e0 :: r).filterMap (·.frame)) s.heap h' → Q (.ref L) { s with heap := h' }) : wpAny M A (PySem.frameOf env) Q E s := by
  unfold PySem.frameOf
  refine wpAny_bind (wpAny_frameEnvs hs ?_)
  rw [show ((e0 :: r).dropWhile fun x => x.frame != env.frame) = e0 :: r by simp [List.dropWhile, h0, he]]
  unfold frameObject
  refine wpAny_bind (wpAny_bind (wpAny_readyFrames_fun hl fun h1 k1 => wpAny_pure ?_))
  rw [h0]
  exact wpAny_pure (h h1 k1)
theorem entry_exc {vs : Array Value} {sl : Array (Option Value)} {head : Value} {hadNext : Bool} {Q : Unit → Shared → Prop} (hs : A.frames = some (e0 :: r)) (hl : s.heap.FunFrames base (e0 :: r)) (h0 : e0.frame = some L) (hf : env.frame = some L)
    (pe : φ ea) (he : s.heap.get? ea = some ⟨cls, od, .fields vs, sl⟩) (h1 : 1 < vs.size) (new : ∀ b, s.heap.objs.size ≤ b → φ b)
    (q : ∀ h', Noted (frs (e0 :: r)) φ s.heap h' → ExcT h' φ ea cls od → Q () { s with heap := h' }) :
    wpAny M A (do let a ← PySem.frameOf env; let pl ← entryPlaceOf L hadNext; let b ← EntryCells.newEntry head a .none (rawInt L) .none pl; setField (.ref ea) 1 b) Q E s := by
  have nfr : ea ∉ (e0 :: r).filterMap (·.frame) := fun hm => by
    obtain ⟨_, o, ho, nf⟩ := hl.mem hm
    rw [he] at ho
    cases ho
    exact nf vs rfl
  refine wpAny_bind (frameOf_top hs hl h0 hf fun g k => ?_)
  refine wpAny_bind (wpAny_entryPlaceOf fun pl pk => ?_)
  simp only [EntryCells.newEntry, newFields]
  refine wpAny_bind (wpAny_newObj_type ?_ (pk.sizeOk5 _ _ _ _ _))
  have e1 : g.get? ea = some ⟨cls, od, .fields vs, sl⟩ := (k.2.1 ea nfr).trans he
  have ne : g.objs.size ≠ ea := Nat.ne_of_gt (Heap.lt_size e1)
  generalize hob : ({ cls := .type "traceback", dict := none, data := .fields ([head, .ref L, .none, rawInt L, .none] ++ (if pl.isEmpty then List.replicate 6 Value.none else pl)).toArray } : Obj) = ob
  have e2 := Heap.get?_push_of_some (h := g) ob e1
  refine wpAny_setField e2 rfl h1 (q _ ⟨fun b o e n f => ?_, fun b o e n => ?_, fun b o e => ?_, ?_⟩ ⟨pe, _, sl, Heap.get?_update_self _ e2 rfl, g.objs.size, ob, _, ?_, ne, new _ (Nat.le_of_eq k.1.symm), ?_, by subst hob; rfl, ?_⟩)
  · have be : b ≠ ea := fun z => n (z ▸ pe)
    rw [Heap.get?_update_other _ _ (Ne.symm be)]
    exact Heap.get?_push_of_some _ ((k.2.1 b f).trans e)
  · have be : b ≠ ea := fun z => n (z ▸ pe)
    obtain ⟨sl', e'⟩ := k.2.2 b o e
    refine ⟨sl', ?_⟩
    rw [Heap.get?_update_other _ _ (Ne.symm be)]
    exact Heap.get?_push_of_some _ e'
  · by_cases be : b = ea
    · subst be
      exact ⟨_, Heap.get?_update_self _ e2 rfl⟩
    · obtain ⟨sl', e'⟩ := k.2.2 b o e
      exact ⟨{ o with slots := sl' }, (Heap.get?_update_other _ _ (Ne.symm be)).trans (Heap.get?_push_of_some _ e')⟩
  · rw [Heap.size_after_update, Heap.size_push, k.1]
    exact Nat.le_succ _
  · simp [h1]
  · rw [Heap.get?_update_other _ _ (Ne.symm ne)]
    exact Heap.get?_push_size _ (by subst hob; rfl)
  · rw [List.size_toArray, List.length_append]
    exact Nat.lt_of_lt_of_le (by decide : 3 < 5) (Nat.le_add_right _ _)
theorem note_exc {Q : Unit → Shared → Prop} (hs : A.frames = some (e0 :: r)) (hl : s.heap.FunFrames base (e0 :: r)) (h0 : e0.frame = some L) (hf : env.frame = some L)
    (x : ExcN s.heap φ ea cls od) (new : ∀ b, s.heap.objs.size ≤ b → φ b) (q : ∀ h', Noted (frs (e0 :: r)) φ s.heap h' → ExcT h' φ ea cls od → Q () { s with heap := h' }) :
    wpAny M A (noteFrame (.ref ea) env) Q E s := by
  obtain ⟨pe, vs, sl, he, hv⟩ := x
  unfold noteFrame
  simp only [hf]
  rcases hv with h1 | ⟨T, oT, ts, h1, ne, pT, hT, hd, h3⟩
  · refine wpAny_bind (wpAny_field he rfl h1 ?_)
    rw [if_neg (by decide)]
    exact entry_exc hs hl h0 hf pe he (Array.getElem?_eq_some_iff.mp h1).1 new q
  · have g3 : ts[3]? = some ts[3] := Array.getElem?_eq_getElem h3
    refine wpAny_bind (wpAny_field he rfl h1 ?_)
    rw [if_pos (show (Value.ref T != Value.none) = true by simp)]
    refine wpAny_bind (wpAny_field hT hd g3 ?_)
    by_cases e3 : (ts[3] == rawInt L) = true
    · rw [if_pos e3]
      exact wpAny_pure (q s.heap Noted.refl ⟨pe, vs, sl, he, T, oT, ts, h1, ne, pT, hT, hd, h3⟩)
    · rw [if_neg e3]
      refine wpAny_bind (wpAny_setField hT hd h3 ?_)
      have other : ∀ b, b ≠ T → (s.heap.update T (Obj.mapFields (·.setIfInBounds 3 Value.none))).get? b = s.heap.get? b := fun b z => Heap.get?_update_other _ _ (Ne.symm z)
      have n1 : Noted (frs (e0 :: r)) φ s.heap (s.heap.update T (Obj.mapFields (·.setIfInBounds 3 Value.none))) := by
        refine ⟨fun b o e n f => (other b fun z => n (z ▸ pT)).trans e, fun b o e n => ⟨o.slots, (other b fun z => n (z ▸ pT)).trans e⟩, fun b o e => ?_, Nat.le_of_eq (Heap.size_after_update ..).symm⟩
        by_cases z : b = T
        · subst z
          exact ⟨_, Heap.get?_update_self _ hT (Obj.isFreed_of_fields (Obj.data_mapFields hd _))⟩
        · exact ⟨o, (other b z).trans e⟩
      refine entry_exc (s := { s with heap := s.heap.update T (Obj.mapFields (·.setIfInBounds 3 Value.none)) }) hs (hl.of_keeps fun b o e nf => ⟨o, (other b fun z => ?_).trans e, rfl⟩) h0 hf pe ((other ea (Ne.symm ne)).trans he) (Array.getElem?_eq_some_iff.mp h1).1
        (fun b hb => new b (Nat.le_trans n1.size hb)) fun h' n2 x2 => q h' (n1.trans n2) x2
      subst z
      rw [hT] at e
      cases e
      exact nf ts hd
theorem flight_exc {fl : Option Addr} {fr : List Addr} {Q : Unit → Shared → Prop} (x : ExcT s.heap φ ea cls od) (q : ∀ h', Noted fr φ s.heap h' → ExcT h' φ ea cls od → Q () { s with heap := h' }) :
    wpAny M A (setFlight (.ref ea) fl) Q E s := by
  obtain ⟨pe, vs, sl, he, T, oT, ts, h1, ne, pT, hT, hd, h3⟩ := x
  unfold setFlight
  refine wpAny_bind (wpAny_field he rfl h1 ?_)
  rw [if_pos (show (Value.ref T != Value.none) = true by simp)]
  have other : ∀ (f : Obj → Obj) b, b ≠ T → (s.heap.update T f).get? b = s.heap.get? b := fun f b z => Heap.get?_update_other _ _ (Ne.symm z)
  refine wpAny_setField hT hd h3 (q _ ⟨fun b o e n f => (other _ b fun z => n (z ▸ pT)).trans e, fun b o e n => ⟨o.slots, (other _ b fun z => n (z ▸ pT)).trans e⟩, fun b o e => ?_, Nat.le_of_eq (Heap.size_after_update ..).symm⟩
    ⟨pe, vs, sl, (other _ ea (Ne.symm ne)).trans he, T, _, _, h1, ne, pT, Heap.get?_update_self _ hT (Obj.isFreed_of_fields (Obj.data_mapFields hd _)), Obj.data_mapFields hd _, by simp [h3]⟩)
  by_cases z : b = T
  · subst z
    exact ⟨_, Heap.get?_update_self _ hT (Obj.isFreed_of_fields (Obj.data_mapFields hd _))⟩
  · exact ⟨o, (other _ b z).trans e⟩
end
end L2

namespace L2
open PySem PySem.Spec PyProof.Rows
section
variable {X : Cx} {pins : List (Addr × Obj)} {σ : St} {H H' : Hp} {s : Shared}
def XOk (X : Cx) (pins : List (Addr × Obj)) (H : Hp) (b : Addr) : Prop :=
  H b = none ∧ b ≠ X.env.locals ∧ b ∉ X.fs ∧ (X.s₀.heap.get? b = none ∨ b ∈ X.ex) ∧ (∀ x c, X.env.cells.lookup x = some c → c ≠ b) ∧ ∀ p ∈ X.pn ++ pins, p.1 ≠ b
theorem Inv.xok {b : Addr} (I : Inv X pins σ H s) (hn : s.heap.get? b = none) (hH : H' b = none) : XOk X pins H' b := by
  refine ⟨hH, fun z => ?_, fun z => ?_, ?_, fun x c e z => ?_, fun p hp z => ?_⟩
  · obtain ⟨m, ⟨o, _, _, ho, _⟩, _⟩ := I.loc
    rw [← z, hn] at ho
    cases ho
  · obtain ⟨_, o, ho, _⟩ := I.funs.mem z
    rw [hn] at ho
    cases ho
  · by_cases hx : b ∈ X.ex
    · exact .inr hx
    · left
      cases q : X.s₀.heap.get? b with
      | none => rfl
      | some o =>
        obtain ⟨o', e⟩ := I.base.there b o q hx
        rw [hn] at e
        cases e
  · obtain ⟨v, o, ho, _⟩ := I.cell x c e
    rw [z, hn] at ho
    cases ho
  · have q := (I.pin p hp).1
    rw [z, hn] at q
    cases q
theorem Inv.xnew {b : Addr} (I : Inv X pins σ H s) (hb : s.heap.objs.size ≤ b) : XOk X pins H b := I.xok (Heap.get?_none_of_le hb) (I.hok.fresh hb)
theorem Un.noted {fs fr ex : List Addr} {H₀ : Hp} {h₀ h h' : Heap} {φ : Addr → Prop} (u : Un fs ex H₀ H h₀ h) (n : Noted fr φ h h') (new : ∀ b o, h₀.get? b = some o → b ∉ ex → ¬ φ b) (hf : ∀ b o, h₀.get? b = some o → b ∈ fr → b ∈ fs) : Un fs ex H₀ H h₀ h' where
  keep := fun b o e hn nf nx => n.keep b o (u.keep b o e hn nf nx) (new b o e nx) fun z => nf (hf b o e z)
  slot := fun b o e hn hb nx => by
    obtain ⟨sl, e1⟩ := u.slot b o e hn hb nx
    obtain ⟨sl', e2⟩ := n.slot b _ e1 (new b o e nx)
    exact ⟨sl', e2⟩
  free := u.free
  there := fun b o e nx => by
    obtain ⟨o', e1⟩ := u.there b o e nx
    exact n.there b o' e1
  tups := u.tups
  frzs := u.frzs
  tbls := u.tbls
theorem HOk.noted {P : Program} {w : World} {h h' : Heap} {fr : List Addr} {φ : Addr → Prop} (x : HOk P w H h) (n : Noted fr φ h h') (hφ : ∀ b, φ b → H b = none) (hf : ∀ b ∈ fr, H b = none) : HOk P w H h' := fun a u e =>
  (x a u e).stay (fun b v hb q => by
    have nb : H b ≠ none := fun z => by
      rcases hb with y | y
      · rw [y, e] at z; cases z
      · rw [y] at z; cases z
    exact n.keep b v q (fun z => nb (hφ b z)) fun z => nb (hf b z)) (fun _ q => q) fun _ _ q => q
theorem Inv.noted {h' : Heap} (I : Inv X pins σ H s) (n : Noted (frs X.stack) (XOk X pins H) s.heap h') : Inv X pins σ H { s with heap := h' } := by
  have cellK : ∀ x c, X.env.cells.lookup x = some c → ∀ v, s.heap.IsCell c v → h'.IsCell c v := fun x c e v ⟨o, ho, hd⟩ => by
    obtain ⟨sl, q⟩ := n.slot c o ho fun k => k.2.2.2.2.1 x c e rfl
    exact ⟨_, q, hd⟩
  refine ⟨I.ok, I.os, I.bare, I.base.noted n (fun b o e nx k => ?_) (fun b o e z => ?_), ?_, fun x c e => ?_, I.free, I.freeC, fun p hp => ?_, I.hok.noted n (fun b k => k.1) I.stkFree, I.len, I.up⟩
  · rcases k.2.2.2.1 with z | z
    · rw [e] at z; cases z
    · exact nx z
  · rcases List.mem_cons.mp (I.stkSub b z) with q | q
    · subst q
      exact absurd (Nat.lt_of_lt_of_le (Heap.lt_size e) I.ok.above) (Nat.lt_irrefl _)
    · exact q
  · obtain ⟨m, ⟨o, es, ep, ho, rr⟩, hl⟩ := I.loc
    obtain ⟨sl, q⟩ := n.slot _ o ho fun k => k.2.1 rfl
    refine ⟨m, ⟨_, es, ep, q, rr⟩, fun i x v e1 e2 e3 => ?_⟩
    obtain ⟨u, rv, l⟩ := hl i x v e1 e2 e3
    refine ⟨u, rv, ?_⟩
    rcases l with l | ⟨k, c, e, z⟩
    · exact .inl l
    · exact .inr ⟨k, c, e, cellK x c e _ z⟩
  · obtain ⟨v, z⟩ := I.cell x c e
    exact ⟨v, cellK x c e v z⟩
  · obtain ⟨e, hn, ne, nf, d⟩ := I.pin p hp
    refine ⟨n.keep p.1 p.2 e (fun k => k.2.2.2.2.2 p hp rfl) fun z => ?_, hn, ne, nf, d⟩
    rcases List.mem_cons.mp (I.stkSub _ z) with q | q
    · exact ne q
    · exact nf q
end
theorem Un.same {fs ex : List Addr} {H₀ H : Hp} {h₀ h h' : Heap} (u : Un fs ex H₀ H h₀ h) (k : ∀ b o, h₀.get? b = some o → h'.get? b = h.get? b) : Un fs ex H₀ H h₀ h' where
  keep := fun b o e hn nf nx => (k b o e).trans (u.keep b o e hn nf nx)
  slot := fun b o e hn hb nx => by
    obtain ⟨sl, e1⟩ := u.slot b o e hn hb nx
    exact ⟨sl, (k b o e).trans e1⟩
  free := u.free
  there := fun b o e nx => by
    obtain ⟨o', e1⟩ := u.there b o e nx
    exact ⟨o', (k b o e).trans e1⟩
  tups := u.tups
  frzs := u.frzs
  tbls := u.tbls
/-! ### exceptions that leave a def, and what a body wants of them -/
def CXs (P : Program) (w : World) : CXT := fun outer H s E e s' => ∃ ea cls od H', e = .ref ea ∧ s'.os = s.os ∧ AllBare s'.gens ∧ s.toks ≤ s'.toks ∧ Un (frs outer) [] H H' s.heap s'.heap ∧ HOk P w H' s'.heap ∧
  ExcN s'.heap (fun b => s.heap.get? b = none ∧ H' b = none) ea cls od ∧ E cls od H'
def Lets (X : Cx) (E : St → XK) : Prop := ∀ (pins : List (Addr × Obj)) (σ : St) (H : Hp) (s : Shared) (ea : Addr) (cls : Value) (od : Option Addr), Inv X pins σ H s → ExcN s.heap (XOk X pins H) ea cls od → E σ cls od H → X.xe (.ref ea) s
theorem Lets.pass {X : Cx} {E : St → XK} {pins : List (Addr × Obj)} {σ : St} {H : Hp} {s s' : Shared} {e : Value} (L : Lets X E) (I : Inv X pins σ H s) (h : CXs X.prog X.w X.stack H s (E σ) e s') : X.xe e s' := by
  obtain ⟨ea, cls, od, H', rfl, os, bare, tt, un, hok, x, hE⟩ := h
  have I2 : Inv X pins σ H' s' := I.call' (ch := []) os un hok bare (fun b z => nomatch z) (Nat.le_trans I.up tt)
  exact L pins σ H' s' ea cls od I2 (x.to fun b k => I.xok k.1 k.2) hE
theorem Lets.passes {X : Cx} {E : XK} (L : Lets X fun _ => E) : Passes (CXs X.prog X.w) X E := fun _ _ _ _ _ _ I h => L.pass I h
section
variable {P : Program} {w : World} {K : PySem.W.Frag} {mg : Str → Option Value} {base : Heap}
theorem lets_fn {N : List Str} {qual : Str} {scope : Scope} {f : Addr} {cd : Value} {A : Around} {outer : List Env} {s : Shared} {H : Hp} {E : XK} : Lets (cxOf (CXs P w) P w K mg base N qual scope f cd A outer s H E) fun _ => E := by
  intro pins σ H' s' ea cls od I x hE
  show wpAny _ _ (leaving _ (.ref ea)) _ _ s'
  unfold leaving
  refine wpAny_bind (note_exc I.ok.frames I.stack rfl rfl x (fun b hb => I.xnew hb) fun h1 n1 x1 => ?_)
  refine flight_exc (fr := frs (cxOf (CXs P w) P w K mg base N qual scope f cd A outer s H E).stack) x1 fun h2 n2 x2 => ?_
  have I2 := I.noted (n1.trans n2)
  refine ⟨ea, cls, od, H', rfl, I2.os, I2.bare, I2.up, I2.base, I2.hok, x2.n.to fun b k => ⟨?_, k.1⟩, hE⟩
  rcases k.2.2.2.1 with z | z
  · exact z
  · exact nomatch z
theorem passesOwn_fn {N : List Str} {qual : Str} {scope : Scope} {f : Addr} {cd : Value} {A : Around} {outer : List Env} {s : Shared} {H : Hp} {E : XK} :
    PassesOwn (model P w) (cxOf (CXs P w) P w K mg base N qual scope f cd A outer s H E).A (cxOf (CXs P w) P w K mg base N qual scope f cd A outer s H E).env (cxOf (CXs P w) P w K mg base N qual scope f cd A outer s H E).xe := PassesOwn.leaving
theorem Fun.okX {x qual : Str} {st : Stmt} {f : Addr} {fd : FuncData} {N ps : List Str} {k : Nat} {sp : Sp} (F : Fun K x qual st f fd) (S : FnScope N ps (defScope st)) (len : ∀ vs H Q E, sp vs H Q E → vs.length = ps.length)
    (hbody : ∀ (cdv : Value) (A : Around) (outer : List Env) (s : Shared) (H : Hp) (vs : List V) (Q : VK) (E : XK), Room k (A.deeper (envOfC qual (defScope st) s.heap.objs.size f cdv)) → sp vs H Q E →
      ∃ t, PSs (cxOf (CXs P w) P w K mg base N qual (defScope st) f cdv A outer s H E) (defBody st) t ∧ t { nx := fun _ H' => Q .non H', rt := Q } (start N vs) H) : FnOk P w K mg base (CXs P w) (k + 1) f fd ps sp := by
  obtain ⟨oc, od, kV, doc, pm, an, cdv, ct, osl, rfl, lk, hcd⟩ := F.ex
  exact fn_of lk hcd S len fun A outer s H vs Q E hr hsp => hbody cdv A outer s H vs Q E hr hsp
end
theorem ObjOk.got {P : Program} {w : World} {H : Hp} {h : Heap} {a : Addr} {o : HO} (x : ObjOk P w H h a o) : h.get? a ≠ none := by
  cases o with
  | lst xs => obtain ⟨_, _, _, _, e⟩ := x; rw [e]; exact fun z => nomatch z
  | tup xs => obtain ⟨_, _, _, ob, e, _⟩ := x; rw [e]; exact fun z => nomatch z
  | dK kvs => obtain ⟨_, _, _, _, o, _, _, e, _⟩ := x; rw [e]; exact fun z => nomatch z
  | dT kvs => obtain ⟨_, _, _, _, o, _, _, e, _⟩ := x; rw [e]; exact fun z => nomatch z
  | set S n => obtain ⟨o, _, _, _, e, _⟩ := x; rw [e]; exact fun z => nomatch z
  | ins C dx fs => obtain ⟨_, _, _, e, _⟩ := x; rw [e]; exact fun z => nomatch z
  | own y => obtain ⟨_, e⟩ := x; rw [e]; exact fun z => nomatch z
  | xd fs => obtain ⟨_, ⟨_, _, _, e, _⟩, _⟩ := x; rw [e]; exact fun z => nomatch z
  | rng lo hi => obtain ⟨_, _, _, e⟩ := x; rw [e]; exact fun z => nomatch z
  | frz ob u => obtain ⟨e, _⟩ := x; rw [e]; exact fun z => nomatch z
  | tbl ps => have e : h.get? a = some _ := x; rw [e]; exact fun z => nomatch z
  | met f y => have e : h.get? a = some _ := x; rw [e]; exact fun z => nomatch z
  | ext φ => obtain ⟨_, ⟨_, e⟩, _⟩ := x; rw [e]; exact fun z => nomatch z
theorem HOk.none_of {P : Program} {w : World} {H : Hp} {h : Heap} {a : Addr} (x : HOk P w H h) (e : h.get? a = none) : H a = none := by
  cases q : H a with
  | none => rfl
  | some o => exact absurd e (x a o q).got
/-! ### raise of an own class -/
set_option genInjectivity false in
structure XP where
  nm : Str
  q : Str
  N : Addr
  bs : List Value
  bm : List Value
  hdct : Bool
  sn : List Str
  sub : List Value
  ab : Bool
  col : Option Bool
  dd : Option Addr
  k0 : Option Value
  k1 : Option Value
  k2 : Option Value
  k3 : Option Value
  k5 : Option Value
  mN : Str → Option Value
abbrev XP.obj (d : XP) (C : Addr) (newId : String) : Obj := excClassObj d.nm d.q C d.N d.bs d.bm d.hdct d.sn d.sub d.ab d.col d.dd d.k0 d.k1 d.k2 d.k3 d.k5 newId
structure XCls (K : PySem.W.Frag) (C : Addr) (Bn B newId inN nid initId : String) (bmN bmB : List Value) : Prop where
  fn : ExcBaseFacts Bn newId inN bmN
  has : bmB.contains (.type Bn) = true
  fb : ExcBaseFacts B nid initId bmB
  obj : ∀ h : Heap, K.In h → ∃ d : XP, h.get? C = some (d.obj C newId) ∧ h.Ns d.N d.mN ∧ d.mN "__init__" = none ∧ OwnTail h bmB d.bm
def XClsE (K : PySem.W.Frag) (C : Addr) : Prop := ∃ Bn B newId inN nid initId bmN bmB, XCls K C Bn B newId inN nid initId bmN bmB
theorem xcls_of {K : PySem.W.Frag} {C : Addr} (q : PySem.W.excIn K C [.type "ValueError", .type "Exception", .type "BaseException", .type "object"] "ValueError.__new__" = true) : XClsE K C := by
  refine ⟨_, _, _, _, _, _, _, _, PySem.F.excBase_ValueError, PySem.F.excBase_ValueError.hasB, PySem.F.excBase_ValueError, fun h k => ?_⟩
  unfold PySem.W.excIn at q
  split at q
  · rename_i dd cd sl hob
    split at q
    · rename_i C' bm k0 k1 k2 k3 nn k5 hmr hsl0
      simp only [Bool.and_eq_true, beq_iff_eq, Bool.not_eq_true'] at q
      obtain ⟨⟨⟨⟨⟨e1, e2⟩, e3⟩, e4⟩, e5⟩, e6⟩ := q
      subst e1 e2
      obtain ⟨nm, bs, mro, ns, qn, hd, sn, sub, ab, col, del⟩ := cd
      dsimp only at hmr e3 e5 e6
      subst hmr e3
      have hsl : sl = #[k0, k1, k2, k3, some (.builtin "ValueError.__new__"), k5] := by
        obtain ⟨l⟩ := sl
        simp only at hsl0
        rw [hsl0]
      subst hsl
      exact ⟨⟨nm, qn, ns, bs, bm, hd, sn, sub, ab, col, dd, k0, k1, k2, k3, k5, _⟩, k _ _ hob, .of_isNs (PySem.W.isNs_of_in k e5), PySem.W.nsMap_none_of_in k e5 e6, PySem.W.tail_of_in k e4⟩
    · cases q
  · cases q
def tRaise (C : Addr) (E : St → XK) (t : TA) : TS := fun _ σ H => t σ H fun vs H1 => vs.length ≤ sizeLine ∧ E σ (.ref C) none H1
theorem ps_raise {X : Cx} {E : St → XK} {C : Addr} {x : Str} {np cpos pos : Pos} {e : Expr} {es : List Expr} {t : TA} (L : Lets X E) (OE : XClsE X.K C) (hc : X.calm = true)
    (hg : Gl X x) (hm : X.mg x = some (.ref C)) (ha : PA X (e :: es) t) (hdb : (x == ("__debug__" : Str)) = false := by decide) (he : starEach (e :: es) X.env = (false, eval e X.env) :: starEach es X.env := by rfl)
    (hpl : (backTo cpos (starEach es X.env)).any (·.1) = false := by rfl) : PS X (.Raise (some (.Call (.Name x np) (e :: es) [] cpos)) none pos) (tRaise C E t) := by
  intro pins s σ H D I h
  obtain ⟨Bn, B, newId, inN, nid, initId, bmN, bmB, O⟩ := OE
  obtain ⟨d, hC, hN, hni, T⟩ := O.obj X.base I.ok.mod.kin
  refine wpAny_Raise_call_subU (C := C) (nm := d.nm) (q := d.q) (N := d.N) (bs := d.bs) (bm := d.bm) (hdct := d.hdct) (sn := d.sn) (sub := d.sub) (ab := d.ab) (col := d.col) (dd := d.dd) (k0 := d.k0) (k1 := d.k1) (k2 := d.k2) (k3 := d.k3) (k5 := d.k5) O.fn O.has O.fb
    (mN := d.mN) (T.hasType O.fb.hasBase) (I.ok.hd hc) (by rw [he]; show (false || (backTo cpos (starEach es X.env)).any (·.1)) = false; rw [hpl]; rfl) hni (ld_glob I hg hm ⟨rfl, ?_⟩ hdb)
  have z := ha cpos pins s σ H _ I h
  rw [he] at z ⊢
  refine Calls.evalArgs_plain (thn z fun us s2 ⟨vs, H2, I2, r, hl, q2⟩ => ⟨rfl, ?_, I2.bk _ _ hC, hN.keeps I2.bk, T.keeps I2.bk, fun h' ea hm => ?_⟩)
  · show us.length ≤ sizeLine
    rw [← r.length]
    exact hl
  · obtain ⟨t', ht, _, _⟩ := hm.there
    exact L pins σ H2 _ ea (.ref C) none (I2.kept (t' := s2.toks) hm.keeps) ⟨I2.xok hm.new (I2.hok.none_of hm.new), _, _, ht, .inl rfl⟩ q2
end L2

namespace L2
open PySem PySem.Spec PyProof.Rows
/-! ### try .. except -/
def Fm (X : Cx) : Prop := ∃ e0 r L, X.stack = e0 :: r ∧ e0.frame = some L ∧ X.env.frame = some L
theorem fm_nox {CX : CXT} {P : Program} {w : World} {K : PySem.W.Frag} {mg : Str → Option Value} {base : Heap} {N : List Str} {qual : Str} {scope : Scope} {f : Addr} {cd : Value} {A : Around} {outer : List Env} {s : Shared} {H : Hp} {E : XK} :
    Fm (cxOf CX P w K mg base N qual scope f cd A outer s H E).nox := ⟨_, _, _, rfl, rfl, rfl⟩
abbrev Cx.also (X : Cx) (pn : List (Addr × Obj)) (xe : Value → Shared → Prop) : Cx := { X with pn := pn, xe := xe }
theorem Cx.Ok.also {X : Cx} (ok : X.Ok) (pn : List (Addr × Obj)) (xe : Value → Shared → Prop) : (X.also pn xe).Ok :=
  ⟨ok.mod, ok.kind, ok.glob, ok.blt, ok.above, ok.inj, ok.has, ok.cab, ok.hd, ok.frames, ok.stk, ok.exf, ok.bs, ok.bsz, ok.noex, ok.exfs, ok.funs, ok.frf, ok.tk⟩
section
variable {X : Cx} {pins ps : List (Addr × Obj)} {σ : St} {H : Hp} {s : Shared} {xe : Value → Shared → Prop}
theorem Inv.also (I : Inv X pins σ H s) : Inv (X.also (X.pn ++ pins) xe) [] σ H s :=
  ⟨I.ok.also _ _, I.os, I.bare, I.base, I.loc, I.cell, I.free, I.freeC, fun p hp => I.pin p (by simpa using hp), I.hok, I.len, I.up⟩
theorem Inv.unalso (ok : X.Ok) (I : Inv (X.also (X.pn ++ pins) xe) ps σ H s) : Inv X pins σ H s :=
  ⟨ok, I.os, I.bare, I.base, I.loc, I.cell, I.free, I.freeC, fun p hp => I.pin p (List.mem_append_left _ hp), I.hok, I.len, I.up⟩
theorem XOk.unalso {b : Addr} (k : XOk (X.also (X.pn ++ pins) xe) ps H b) : XOk X pins H b :=
  ⟨k.1, k.2.1, k.2.2.1, k.2.2.2.1, k.2.2.2.2.1, fun p hp => k.2.2.2.2.2 p (List.mem_append_left _ hp)⟩
theorem ExcT.to {h : Heap} {φ ψ : Addr → Prop} {ea : Addr} {cls : Value} {od : Option Addr} (x : ExcT h φ ea cls od) (m : ∀ b, φ b → ψ b) : ExcT h ψ ea cls od := by
  obtain ⟨p, vs, sl, e, T, oT, ts, a, b, c, d⟩ := x
  exact ⟨m _ p, vs, sl, e, T, oT, ts, a, b, m _ c, d⟩
end
abbrev TH := Value → Option Addr → TS
def PH (X : Cx) (hs : List ExceptHandler) (th : TH) : Prop :=
  ∀ (pins : List (Addr × Obj)) (s : Shared) (σ : St) (H : Hp) (D : Ends) (ea : Addr) (cls : Value) (od : Option Addr), Inv X pins σ H s → ExcT s.heap (XOk X pins H) ea cls od → th cls od D σ H →
    wpAny (model X.prog X.w) X.A (handleBy (.ref ea) X.env hs) (SP X pins D) X.xe s
def tTry (tb : (St → XK) → TS) (th : TH) : TS := fun D σ H => tb (fun σ' cls od H' => th cls od D σ' H') D σ H
theorem ps_try {X : Cx} {body : List Stmt} {h₀ : ExceptHandler} {hs : List ExceptHandler} {pos : Pos} {tb : (St → XK) → TS} {th : TH} (F : Fm X)
    (hb : ∀ (E : St → XK) (pn : List (Addr × Obj)) (xe : Value → Shared → Prop), Lets (X.also pn xe) E → PassesOwn (model X.prog X.w) X.A X.env xe → PSs (X.also pn xe) body (tb E)) (hh : PH X (h₀ :: hs) th) :
    PS X (.Try body (h₀ :: hs) [] [] pos) (tTry tb th) := by
  intro pins s σ H D I h
  obtain ⟨e0, r, L, hst, h0, hf⟩ := F
  refine wpAny_Try_except ?_
  generalize hxe : (fun e s₁ => wpAny (model X.prog X.w) X.A (noteFrame e X.env) (fun _ s₂ => wpAny (model X.prog X.w) X.A (setFlight e none) (fun _ s₃ => wpAny (model X.prog X.w) X.A (handleBy e X.env (h₀ :: hs)) (SP X pins D) X.xe s₃) X.xe s₂) X.xe s₁) = xe
  have LX : Lets (X.also (X.pn ++ pins) xe) fun σ' cls od H' => th cls od D σ' H' := by
    intro ps σ' H' s' ea cls od J x q
    show xe (.ref ea) s'
    subst hxe
    have fr := J.ok.frames
    have sf := J.stack
    refine note_exc (s := s') (e0 := e0) (r := r) (by rw [← hst]; exact fr) (by rw [← hst]; exact sf) h0 hf x (fun b hb => J.xnew hb) fun h1 n1 x1 => ?_
    refine flight_exc (fr := frs (e0 :: r)) x1 fun h2 n2 x2 => ?_
    have n12 := n1.trans n2
    rw [← hst] at n12
    have J2 := J.noted n12
    exact hh pins _ σ' H' D ea cls od (J2.unalso I.ok) (x2.to fun b k => k.unalso) q
  have po : PassesOwn (model X.prog X.w) X.A X.env xe := by
    subst hxe
    exact PassesOwn.looking
  refine wpAny_mono (hb _ _ xe LX po [] s σ H D I.also h) (fun f s1 q => ?_) fun e s1 q => ?_
  · cases f with
    | next =>
      obtain ⟨σ', H', J, q⟩ := q
      exact wpAny_execs_nil ⟨σ', H', J.unalso I.ok, q⟩
    | brk =>
      obtain ⟨σ', H', J, q⟩ := q
      exact ⟨σ', H', J.unalso I.ok, q⟩
    | cont =>
      obtain ⟨σ', H', J, q⟩ := q
      exact ⟨σ', H', J.unalso I.ok, q⟩
    | ret u =>
      obtain ⟨v, σ', H', J, rv, q⟩ := q
      exact ⟨v, σ', H', J.unalso I.ok, rv, q⟩
  · have q' : xe e s1 := q
    subst hxe
    exact q'
/-! ### the clauses -/
abbrev Cx.within (X : Cx) (ea : Addr) : Cx := { X with A := X.A.mark (some (.ref ea)), calm := false, xe := fun _ _ => False }
theorem Cx.Ok.within {X : Cx} (ok : X.Ok) (ea : Addr) : (X.within ea).Ok :=
  ⟨ok.mod, ok.kind, ok.glob, ok.blt, ok.above, ok.inj, ok.has, ok.cab, (fun z => nomatch z), ok.frames, ok.stk, ok.exf, ok.bs, ok.bsz, ok.noex, ok.exfs, ok.funs, ok.frf, ok.tk⟩
section
variable {X : Cx} {pins : List (Addr × Obj)} {σ : St} {H : Hp} {s : Shared} {ea : Addr}
theorem Inv.within (I : Inv X pins σ H s) (ea : Addr) : Inv (X.within ea) pins σ H s := ⟨I.ok.within ea, I.os, I.bare, I.base, I.loc, I.cell, I.free, I.freeC, I.pin, I.hok, I.len, I.up⟩
theorem Inv.behind (ok : X.Ok) (I : Inv (X.within ea) pins σ H s) : Inv X pins σ H s := ⟨ok, I.os, I.bare, I.base, I.loc, I.cell, I.free, I.freeC, I.pin, I.hok, I.len, I.up⟩
end
def exO (ea : Addr) (cls : Value) (od : Option Addr) : HO := .ext fun h => ∃ vs sl, h.get? ea = some ⟨cls, od, .fields vs, sl⟩
def Ends.un (D : Ends) (i : Nat) : Ends := { nx := fun σ H => D.nx (σ.set i none) H, rt := D.rt, bk := fun σ H => D.bk (σ.set i none) H, ct := fun σ H => D.ct (σ.set i none) H }
theorem Inv.tracks {X : Cx} {pins : List (Addr × Obj)} {σ : St} {H : Hp} {s : Shared} {a : Addr} {o : HO} (I : Inv X pins σ H s) (k : XOk X pins H a) (new : ObjOk X.prog X.w (upd H a o) s.heap a o) : Inv X pins σ (upd H a o) s := by
  obtain ⟨hn, k1, k2, k3, k4, k5⟩ := k
  refine ⟨I.ok, I.os, I.bare, ⟨I.base.keep, I.base.slot, fun b ob q n hx => ?_, I.base.there, fun b xs q => ?_, fun b ob u q => ?_, fun b ps q => ?_⟩, I.loc, I.cell, ?_, fun x c e => ?_, fun p hp => ?_, fun b u q => ?_, I.len, I.up⟩
  · have ne : b ≠ a := fun z => by
      rcases k3 with y | y
      · rw [← z, q] at y; cases y
      · exact hx (z ▸ y)
    rw [upd_ne ne]
    exact I.base.free b ob q n hx
  · have q' := I.base.tups b xs q
    rw [upd_ne (ne_of_none q' hn)]; exact q'
  · have q' := I.base.frzs b ob u q
    rw [upd_ne (ne_of_none q' hn)]; exact q'
  · obtain ⟨more, q'⟩ := I.base.tbls b ps q
    exact ⟨more, by rw [upd_ne (ne_of_none q' hn)]; exact q'⟩
  · rw [upd_ne (Ne.symm k1)]; exact I.free
  · rw [upd_ne (k4 x c e)]; exact I.freeC x c e
  · obtain ⟨e, n, r⟩ := I.pin p hp
    exact ⟨e, by rw [upd_ne (k5 p hp)]; exact n, r⟩
  · by_cases hb : b = a
    · subst hb; rw [upd_same] at q; cases q; exact new
    · rw [upd_ne hb] at q
      exact (I.hok b u q).stay (fun c v _ r => r) (fun c r => by rw [upd_ne (ne_of_none r hn)]; exact r) fun c xs r => by rw [upd_ne (ne_of_none r hn)]; exact r
structure XB (K : PySem.W.Frag) (D : Addr) : Prop where
  hd : PySem.W.hasDictIn K D = true
  ty : PySem.W.typeIn K (.ref D) = some (.type "type")
  be : PySem.W.mroIn K D (.type "BaseException") = some true
theorem exc_match {M : Model} {A : Around} {E : Value → Shared → Prop} {s : Shared} {K : PySem.W.Frag} {Q : Bool → Shared → Prop} {ea C D : Addr} {o : Obj} {b : Bool} (k : K.In s.heap) (he : s.heap.get? ea = some o) (hc : o.cls = .ref C)
    (h0 : PySem.W.subIn K (.ref C) (.ref D) = some b) (h2 : XB K D) (q : Q b s) : wpAny M A (excMatches (.ref ea) (.ref D)) Q E s := by
  have h1 : PySem.W.kitCls K (.ref C) (.ref D) = some b := by
    obtain ⟨cd, hcd, _⟩ := PySem.W.any_some h2.hd
    show (if ((PySem.W.clsIn K D).isSome && PySem.W.typeIn K (.ref D) == some (.type "type")) = true then PySem.W.subIn K (.ref C) (.ref D) else none) = some b
    rw [if_pos (by rw [hcd, h2.ty]; simp)]
    exact h0
  obtain ⟨lt, li, ls⟩ := PySem.W.kit_cls (M := M) k h1
  have lb := PySem.W.looks_mroIn (M := M) k h2.be
  have le : PySem.W.Looks M s.heap (typeOf (.ref ea)) (.ref C) := by
    intro A' Q' E' s' kk qq
    unfold typeOf
    exact wpAny_bind (wpAny_loadPart (kk _ _ he) (wpAny_pure (by rw [hc]; exact qq)))
  have l0 : PySem.W.Looks M s.heap (isInstance (.ref D) (.type "tuple")) false := lt.andThen (PySem.W.Looks.of_pure tc_notTuple)
  have l1 : PySem.W.Looks M s.heap (isExcClass (.ref D)) true := by
    unfold isExcClass
    exact li.andThen lb
  unfold excMatches
  refine wpAny_bind (l0.here (wpAny_bind ?_))
  simp only [Bool.false_eq_true, if_false]
  refine wpAny_pure ?_
  rw [List.forIn_cons]
  refine wpAny_bind (wpAny_bind (wpAny_bind (l1.here ?_)))
  simp only [Bool.not_true, Bool.false_eq_true, if_false]
  refine wpAny_pure (wpAny_pure ?_)
  refine wpAny_bind (le.here (wpAny_bind ?_))
  rw [List.forIn_cons]
  refine wpAny_bind (wpAny_bind (ls.here ?_))
  cases b with
  | true =>
    simp only [if_true]
    exact wpAny_pure (wpAny_pure (wpAny_pure q))
  | false =>
    simp only [Bool.false_eq_true, if_false]
    exact wpAny_pure (wpAny_pure (wpAny_pure q))
theorem name_goes {X : Cx} {pins : List (Addr × Obj)} {σ : St} {H : Hp} {s : Shared} {M : Model} {A : Around} {E : Value → Shared → Prop} {Q : Unit → Shared → Prop} {i : Nat} {n : Str} {pos : Pos} (I : Inv X pins σ H s) (hN : X.N.Nodup) (hi : X.N[i]? = some n) (hl : X.env.scope.names.lookup n = some .local)
    (h : ∀ s', Inv X pins (σ.set i none) H s' → Q () s') : wpAny M A (do bindName X.env n .none; unbindBehindTheSuite X.env n pos) Q E s := by
  obtain ⟨m, hn, hlk⟩ := I.loc
  refine wpAny_nameGoes_keeps hl hn (by rw [I.ok.kind]; rfl) fun h' v hn' sb => h _ ?_
  have cellK : ∀ x c, X.env.cells.lookup x = some c → ∀ v, s.heap.IsCell c v → h'.IsCell c v := fun x c e v ⟨o, ho, hd⟩ => ⟨o, (sb.2 c (I.cne x c e)).trans ho, hd⟩
  refine ⟨I.ok, I.os, I.bare, I.base.same fun b o e => sb.2 b (Nat.ne_of_lt (Nat.lt_of_lt_of_le (Heap.lt_size e) I.ok.above)), ⟨_, hn', fun j y u e1 e2 e3 => ?_⟩, fun x c e => ?_, I.free, I.freeC, fun p hp => ?_, I.hok.but I.free sb, by rw [List.length_set]; exact I.len, Nat.le_succ_of_le I.up⟩
  · have ji : i ≠ j := fun z => by
      subst z
      rw [List.getElem?_set_self (by rw [I.len]; exact (List.getElem?_eq_some_iff.mp hi).1)] at e2
      cases e2
    rw [List.getElem?_set_ne ji] at e2
    obtain ⟨w, rv, l⟩ := hlk j y u e1 e2 e3
    refine ⟨w, rv, ?_⟩
    rcases l with ⟨k1, k2⟩ | ⟨k, c, e, z⟩
    · refine .inl ⟨k1, ?_⟩
      have ne : y ≠ n := fun z => ji (nodup_ix hN hi (z ▸ e1))
      show (if y = n then v else m y) = some w
      rw [if_neg ne]
      exact k2
    · exact .inr ⟨k, c, e, cellK y c e _ z⟩
  · obtain ⟨v, z⟩ := I.cell x c e
    exact ⟨v, cellK x c e v z⟩
  · obtain ⟨e, hh, ne, r⟩ := I.pin p hp
    exact ⟨(sb.2 _ ne).trans e, hh, ne, r⟩
def tAs (K : PySem.W.Frag) (C : Addr) (i : Nat) (ts : TS) (th : TH) : TH := fun cls od D σ H => ∃ Ce b, cls = .ref Ce ∧ PySem.W.subIn K (.ref Ce) (.ref C) = some b ∧
  if b = true then ∀ ea, H ea = none → ts (D.un i) (σ.set i (some (.ref ea))) (upd H ea (exO ea cls od)) else th cls od D σ H
theorem ph_as {X : Cx} {i : Nat} {n x : Str} {C : Addr} {b₀ : Stmt} {suite : List Stmt} {np pos : Pos} {rest : List ExceptHandler} {ts : TS} {th : TH} (hN : X.N.Nodup) (hi : X.N[i]? = some n) (hl : X.env.scope.names.lookup n = some .local) (hg : Gl X x) (hm : X.mg x = some (.ref C))
    (hbe : XB X.K C) (hsu : ∀ ea, PSs (X.within ea) (b₀ :: suite) ts) (hr : PH X rest th) (hdb : (x == ("__debug__" : Str)) = false := by decide) :
    PH X (.ExceptHandler (some (.Name x np)) (some n) (b₀ :: suite) pos :: rest) (tAs X.K C i ts th) := by
  intro pins s σ H D ea cls od I x h
  obtain ⟨Ce, b, rfl, hk, h⟩ := h
  obtain ⟨pe, vs, sl, he, hT⟩ := id x
  refine wpAny_handleBy_cons (codeAny_handlers_test (ld_glob (X := X.within ea) (I.within ea) hg hm ?_ hdb)) (by intro q; cases q)
  refine exc_match I.kIn he rfl hk hbe ?_
  cases b with
  | false => exact hr pins s σ H D ea _ od I x h
  | true =>
    refine codeAny_handlers_suite_as ?_
    refine flight_exc (fr := frs X.stack) x fun h1 n1 x1 => ?_
    have I1 := I.noted n1
    obtain ⟨pe1, vs1, sl1, he1, _⟩ := id x1
    have I2 : Inv X pins σ (upd H ea (exO ea (.ref Ce) od)) { s with heap := h1 } := I1.tracks pe1 ⟨⟨vs1, sl1, he1⟩, ⟨_, he1⟩, fun h1 h2 ⟨v, s', e⟩ k => ⟨v, s', k _ e⟩⟩
    refine store_ok (X := X.within ea) (I2.within ea) hN hi (.inl hl) (v := .ref ea) rfl (fun s2 I3 => ?_) (.inr hl)
    have z := hsu ea pins s2 _ _ (D.un i) I3 (h ea pe1.1)
    refine wpAny_mono z (fun f s3 q => ?_) fun _ _ z => False.elim z
    cases f with
    | next =>
      obtain ⟨σ', H', J, q⟩ := q
      exact name_goes (J.behind I.ok) hN hi hl fun s4 J4 => ⟨_, _, J4, q⟩
    | brk =>
      obtain ⟨σ', H', J, q⟩ := q
      exact name_goes (J.behind I.ok) hN hi hl fun s4 J4 => ⟨_, _, J4, q⟩
    | cont =>
      obtain ⟨σ', H', J, q⟩ := q
      exact name_goes (J.behind I.ok) hN hi hl fun s4 J4 => ⟨_, _, J4, q⟩
    | ret u =>
      obtain ⟨v, σ', H', J, rv, q⟩ := q
      exact name_goes (J.behind I.ok) hN hi hl fun s4 J4 => ⟨v, _, _, J4, rv, q⟩
theorem ph_nil {X : Cx} : PH X [] fun _ _ _ _ _ => False := fun _ _ _ _ _ _ _ _ _ _ h => False.elim h
/-! ### calls in a try -/
def tCallX (sp : Sp) (dvs : List V) (E : St → XK) (t : TA) : TE := fun σ H Q => t σ H fun vs H1 => sp (vs ++ dvs) H1 Q (E σ)
section
variable {X : Cx} {k : Nat} {f C : Addr} {fd : FuncData} {ps : List Str} {sp : Sp} {dvs : List V} {ds : List Value} {E : St → XK} {x : Str} {p pos : Pos} {e : Expr} {es : List Expr} {t : TA}
theorem pe_callX (F : FnOk X.prog X.w X.K X.mg X.base (CXs X.prog X.w) k f fd ps sp) (hr : Room k X.A) (hg : Gl X x) (hm : X.mg x = some (.ref f)) (hk : PySem.W.keepIn X.K (.ref f) = true) (hb : Binds X.K fd ps ds) (hd : Vals dvs ds) (LX : Lets X E)
    (ha : PA X (e :: es) t) (hdb : (x == ("__debug__" : Str)) = false := by decide) (he : starEach (e :: es) X.env = (false, eval e X.env) :: starEach es X.env := by rfl) (hpl : (backTo pos (starEach es X.env)).any (·.1) = false := by rfl) :
    PE X (.Call (.Name x p) (e :: es) [] pos) (tCallX sp dvs E t) := by
  intro pins s σ H Q I h
  refine wpAny_Call_Name_kw (ld_glob I hg hm ?_ hdb)
  refine PySem.W.callWith_K (h₀ := X.base) I.ok.mod.kin hk (thn (ha pos pins s σ H _ I h) fun us s1 ⟨vs, H1, I1, r, q⟩ => ⟨I1.kIn, ?_⟩) he hpl
  have r2 : Vals (vs ++ dvs) (us ++ ds) := r.append hd
  have hl : (us ++ ds).length = ps.length := by rw [← r2.length]; exact F.len _ _ _ _ q
  refine wpAny_call (codeAny_mono (F.run X.A X.stack s1 H1 ⟨us, []⟩ (us ++ ds) (vs ++ dvs) Q (E σ) hr I1.env0 (hb s1 us I1.kIn hl) r2 q) fun rr s' hq => ?_)
  cases rr with
  | error e => exact LX.pass I1 hq
  | ok fl =>
    cases fl with
    | ret u => exact I1.after hq
    | next => exact False.elim hq
    | brk => exact False.elim hq
    | cont => exact False.elim hq
end
end L2

namespace L2
open PySem PySem.Spec PyProof.Rows
end L2

namespace L2
open PySem PySem.Spec PyProof.Rows
section
variable {X : Cx}
abbrev TJ := St → Hp → Str → (Str → Hp → Prop) → Prop
def PJ (X : Cx) (es : List Expr) (tj : TJ) : Prop := ∀ (pins : List (Addr × Obj)) (s : Shared) (σ : St) (H : Hp) (acc : Str) (R : Str → Hp → Prop), Inv X pins σ H s → tj σ H acc R →
  Joins (model X.prog X.w) X.A X.xe (evalEach es X.env) acc (fun out s1 => out.length ≤ sizeLine ∧ ∃ H1, Inv X pins σ H1 s1 ∧ R out H1) s
theorem pj_nil : PJ X [] (fun _ H acc R => acc.length ≤ sizeLine ∧ R acc H) := fun _ _ _ H _ _ I h => ⟨h.1, H, I, h.2⟩
theorem pj_cons {e : Expr} {es : List Expr} {te : TE} {tj : TJ} (he : PE X e te) (hr : PJ X es tj) (hx : evalEach (e :: es) X.env = eval e X.env :: evalEach es X.env := by rfl) :
    PJ X (e :: es) (fun σ H acc R => te σ H fun v H1 => ∃ y, v = .str y ∧ (acc ++ y).length ≤ sizeLine ∧ tj σ H1 (acc ++ y) R) := by
  intro pins s σ H acc R I h
  rw [hx]
  refine thn (he pins s σ H _ I h) fun u s1 ⟨v, H1, I1, r, y, e1, hl, q⟩ => ?_
  subst e1
  obtain ⟨t, rfl⟩ := r
  exact ⟨y, t, rfl, hl, hr pins s1 σ H1 _ R I1 q⟩
theorem joins_imp {M : Model} {A : Around} {E : Value → Shared → Prop} : ∀ {parts : List (Sem Value)} {acc : Str} {Q Q' : Str → Shared → Prop} {s : Shared}, Joins M A E parts acc Q s → (∀ out s1, Q out s1 → Q' out s1) → Joins M A E parts acc Q' s
  | [], _, _, _, _, h, k => k _ _ h
  | _ :: _, _, _, _, _, h, k => thn h fun _ _ ⟨y, t, e, hl, q⟩ => ⟨y, t, e, hl, joins_imp q k⟩
theorem pe_join {v₁ v₂ : Expr} {rest : List Expr} {pos : Pos} {tj : TJ} (h : PJ X (v₁ :: v₂ :: rest) tj) : PE X (.JoinedStr (v₁ :: v₂ :: rest) pos) (fun σ H Q => tj σ H Str.empty fun out H1 => Q (.str out) H1) := by
  intro pins s σ H Q I q
  refine wpAny_JoinedStr (joins_imp (h pins s σ H Str.empty _ I q) fun out s1 ⟨hl, H1, I1, q1⟩ => ⟨hl, .str out, H1, I1.tok _, ⟨_, rfl⟩, q1⟩)
theorem pe_fmt {value : Expr} {pos : Pos} {te : TE} (he : PE X value te) : PE X (.FormattedValue value (-1) none pos) (fun σ H Q => te σ H fun v H1 => ∃ i : Int, v = .int i ∧ i.natAbs.log2 < 1920 ∧ Q (.str (Str.ofString (toString i))) H1) := by
  intro pins s σ H Q I h
  refine wpAny_FormattedValue_plain (thn (he pins s σ H _ I h) fun u s1 ⟨v, H1, I1, r, i, e, hl, q⟩ => ?_)
  subst e
  obtain ⟨t, rfl⟩ := r
  exact wpAny_formatField_int hl ⟨.str (Str.ofString (toString i)), H1, I1.tok _ (by show s1.toks ≤ _; omega), ⟨_, rfl⟩, q⟩
end
/-! ### isinstance of a caught exception -/
structure XTy (K : PySem.W.Frag) (C : Addr) : Prop where
  ga : PySem.W.findIn K (.ref C) "__getattribute__" = some (some (.builtin "BaseException.__getattribute__"))
  gn : PySem.W.findIn K (.ref C) "__getattr__" = some none
  hd : PySem.W.hasDictIn K C = true
  ha : PySem.W.findIn K (.ref C) "__class__" = some (some (.builtin "object.__class__"))
  hn : PySem.W.specialIn K (.builtin "object.__class__") "__get__" = some (some (.builtin "getset_descriptor.__get__"))
  htk : PySem.W.takesIn K (.builtin "object.__class__") = some true
  hm : PySem.W.mroIn K C (.type "object") = some true
  hb : PySem.W.mroIn K C (.type "BaseException") = some true
theorem exc_class {prog : Program} {w : World} {A : Around} {E : Value → Shared → Prop} {s : Shared} {K : PySem.W.Frag} {x C : Addr} {ox : Obj} {od : Option Obj} {Q : Option Value → Shared → Prop} (Z : XTy K C) (k : K.In s.heap) (I : PySem.W.InstAt s.heap x ox C od)
    (h : Q (some (.ref C)) { s with toks := s.toks + 1 }) : wpAny (model prog w) A (getAttr? (.ref x) "__class__") Q E s := by
  obtain ⟨hh, g, d, t, os⟩ := s
  have L0 := I.type (M := model prog w)
  have L1 := PySem.W.looks_findIn (M := model prog w) k Z.ga
  have L2 := PySem.W.looks_findIn (M := model prog w) k Z.gn
  have LB := PySem.W.looks_mroIn (M := model prog w) k Z.hb
  have hf : PySem.W.findObj K C od "__class__" = some (.bind (.builtin "getset_descriptor.__get__") (.builtin "object.__class__")) := by
    obtain ⟨cd, hc, _⟩ := PySem.W.any_some Z.hd
    unfold PySem.W.findObj
    rw [hc, Option.bind_some, Z.ha, Option.bind_some]
    simp [Z.hn, Z.htk]
  have LF := PySem.W.looks_find (M := model prog w) k I hf
  unfold getAttr? getAttrBy? getAttrBy
  refine wpAny_bind (wpAny_mkText (wpAny_bind (wpAny_attempt (wpAny_holding (wpAny_bind (L0.at (wpAny_bind (L1.at ?_))))))))
  show wpAny _ _ (getAttrByItsOwn _ _ _ _ _ _) _ _ _
  unfold getAttrByItsOwn hookBefore
  refine wpAny_bind (L2.at ?_)
  refine wpAny_bind (wpAny_attempt (wpAny_holding ?_))
  show wpAny _ _ (boundAndCalled _ _ _) _ _ _
  unfold boundAndCalled
  refine wpAny_bind (wpAny_of_eq (PySem.F.attr_ValueError.ga.bind (.ref x)) ?_)
  show wpAny _ _ (call (.builtin "BaseException.__getattribute__") [.ref x, .str "__class__" t]) _ _ _
  refine wpAny_call (codeAny_call_builtin PySem.F.attr_ValueError.ga.plain PySem.F.entry_bexc_ga ?_)
  have c1 : builtinKind "BaseException.__getattribute__" = some .slot := by decide +kernel
  have c2 : splitId "BaseException.__getattribute__" = some ("BaseException", "__getattribute__") := by decide +kernel
  have c3 := PySem.F.args_bexc_ga (.ref x) (.str "__class__" t)
  simp only [checkBuiltinCall, c1, c2]
  refine wpAny_bind (wpAny_bind (L0.at (LB.at ?_)))
  simp only [Bool.not_true, Bool.false_eq_true, if_false]
  unfold argsOk at c3
  refine wpAny_of_eq c3 ?_
  unfold Builtin.«object.__getattribute__»
  refine wpAny_bind (wpAny_pure (wpAny_bind (wpAny_pure (wpAny_bind (L0.at (wpAny_bind (LF.at ?_)))))))
  show wpAny _ _ (holding [.builtin "object.__class__"] (call (.builtin "getset_descriptor.__get__") [.builtin "object.__class__", .ref x, .ref C]) >>= ret) _ _ _
  refine wpAny_bind (wpAny_holding (wpAny_call (PySem.W.class_get (ox := ox) (od := od) k I Z.hm ?_)))
  refine wpAny_pure ?_
  show wpAny _ _ (handedOut (.ref C)) _ _ _
  exact PySem.W.handed_on rfl (wpAny_pure h)
end L2
namespace L2
open PySem PySem.Spec PyProof.Rows
theorem kitx_exc {K : PySem.W.Frag} {x C : Addr} {ox : Obj} {od : Option Obj} (Z : XTy K C) : PySem.W.KitX K (.ref x) (.ref C) (fun h => PySem.W.InstAt h x ox C od) where
  ty := fun _ _ _ I => I.type
  it := fun _ _ k _ => by
    obtain ⟨cd, hcd, _⟩ := PySem.W.any_some Z.hd
    unfold PySem.W.clsIn at hcd
    split at hcd
    · rename_i c1 d1 cd1 sl1 hob
      intro A1 Q1 E1 s1 kk q
      unfold isType loadHead
      exact wpAny_bind (wpAny_loadPart (kk _ _ (k _ _ hob)) (wpAny_pure q))
    · cases hcd
  ne := fun h tp dd its n sl k htp => by
    obtain ⟨cd, hcd, _⟩ := PySem.W.any_some Z.hd
    refine Bool.eq_false_iff.mpr fun q => ?_
    have e := Value.ref.inj (beq_iff_eq.mp q)
    subst e
    unfold PySem.W.clsIn at hcd
    split at hcd
    · rename_i c1 d1 cd1 sl1 hob
      have z := (k _ _ hob).symm.trans htp
      cases z
    · cases hcd
  ca := fun k I q => exc_class Z k I q
end L2

namespace GP
open PySem L2 GwM
end GP

namespace L2
open PySem PySem.Spec PyProof.Rows
/-! ### a slice of a text -/
theorem sl_str {X : Cx} : SlR X (fun x lo hi H Q => ∃ y, x = .str y ∧ y.length ≤ sizeLine ∧ Q (.str (Txt.slice y lo hi)) H) := by
  intro pins s σ H x v vl vu lo hi sl Q I rx hs pl pu h
  obtain ⟨y, rfl, hz, q⟩ := h
  obtain ⟨t, rfl⟩ := rx
  refine ⟨"str", _, PySem.F.slot_str_getitem.lookup, typeIs_str _ _ _, ?_⟩
  have fin : (Txt.slice y lo hi).length ≤ sizeLine ∧ ∀ t' k, s.toks ≤ k → EP X pins σ Q (.str (Txt.slice y lo hi) t') { s with toks := k } := ⟨Nat.le_trans (Txt.slice_le y _ _) hz, fun t' k hk => ⟨.str (Txt.slice y lo hi), H, I.tok k hk, ⟨_, rfl⟩, q⟩⟩
  refine TK.wpAny_up (Nat.le_refl s.toks) ?_
  cases pl with
  | none =>
    cases pu with
    | none => exact wpAny_getItem_str_slice (l := none) (u := none) (st := none) hs rfl (post_val_or_str fin)
    | int j u => exact wpAny_getItem_str_slice (l := none) (u := some (j, u)) (st := none) hs rfl (post_val_or_str fin)
  | int i u =>
    cases pu with
    | none => exact wpAny_getItem_str_slice (l := some (i, u)) (u := none) (st := none) hs rfl (post_val_or_str fin)
    | int j u' => exact wpAny_getItem_str_slice (l := some (i, u)) (u := some (j, u')) (st := none) hs rfl (post_val_or_str fin)
end L2
namespace GP
open PySem L2 GwM
end GP

namespace L2
open PySem PySem.Spec PyProof.Rows
section
variable {prog : Program} {w : World} {A : Around} {E : Value → Shared → Prop} {h : Heap} {gs : Array GenState} {dr : Drawn} {tk : Nat} {os : OsState}
variable {nm qn : Str} {C N : Addr} {bs tl bmB bmN : List Value} {hdct : Bool} {sn : List Str} {sub : List Value} {ab : Bool} {col : Option Bool} {dd : Option Addr} {k0 k1 k2 k3 k5 : Option Value} {B Bn newId nid initId inN : String}
theorem type_call_init {mN : Str → Option Value} {rest : List Value} {fI : Addr} {oI : Obj} {Q : Fin → Shared → Prop} (Fn : ExcBaseFacts Bn newId inN bmN) (hBn : bmB.contains (.type Bn) = true) (FB : ExcBaseFacts B nid initId bmB) (T : OwnTail h bmB tl)
    (hob : h.get? C = some (excClassObj nm qn C N bs tl hdct sn sub ab col dd k0 k1 k2 k3 k5 newId)) (hns : h.Ns N mN) (hini : mN "__init__" = some (.ref fI)) (hfo : h.get? fI = some oI) (hfc : oI.cls = .type "function")
    (hq : ∀ h' e, Heap.MadeExcOf h h' e (.ref C) rest → wpAny (model prog w) A (call (.ref fI) (.ref e :: rest)) (fun r s' => r = .none ∧ Q (.done (.ret (.ref e))) s') E ⟨h', gs, dr, tk, os⟩) (hz : rest.length ≤ sizeLine) :
    wpAny (model prog w) A (Builtin.«type.__call__» ⟨.ref C :: rest, []⟩) Q E ⟨h, gs, dr, tk, os⟩ := by
  repeat (first | with_reducible refine wpAny_loadPart_at hob ?_ | with_reducible refine wpAny_madeBy_exc hob ?_ | wp_step)
  refine codeAny_call_builtin_code (Code.quiet_builtin _ Fn.quiet) (wpAny_check_new_subU Fn hBn T hob ?_)
  refine codeAny_exc_new_subU Fn hBn FB T hob ?_ hz
  show wpAny _ _ _ _ _ _
  have kp : ∀ b o, h.get? b = some o → ((h.push { cls := .type "tuple", data := .seq rest.toArray }).push { cls := .ref C, data := .fields #[.ref h.objs.size, .none, .none, .none, .bool false, .none] }).get? b = some o := fun b o e => Heap.get?_push_of_some _ (Heap.get?_push_of_some _ e)
  have hob1 := kp _ _ hob
  have hfo1 := kp _ _ hfo
  have hns1 := hns.keeps kp
  have T1 := T.keeps kp
  have hget1 : ((h.push { cls := .type "tuple", data := .seq rest.toArray }).push { cls := .ref C, data := .fields #[.ref h.objs.size, .none, .none, .none, .bool false, .none] }).get? (h.objs.size + 1) = some { cls := .ref C, data := .fields #[.ref h.objs.size, .none, .none, .none, .bool false, .none] } := by heap_get
  have hself : (Value.ref C :: tl).contains (.ref C) = true := by simp
  unfold isInstance
  repeat (first | with_reducible refine wpAny_loadPart_at hget1 ?_ | (with_reducible refine wpAny_isSubtype_exc hob1 ?_; rw [hself]) | wp_step)
  show wpAny _ _ (typeLookup (.ref C) _) _ _ _
  refine wpAny_typeLookup_tail hob1 hns1 T1 FB.mroIs FB.init.lookup ?_
  rw [hini]
  refine wpAny_holding (wpAny_bind ?_)
  unfold bindSpecial
  refine wpAny_bind (wpAny_typeOf (T := "function") ⟨_, hfo1, hfc⟩ ?_)
  rw [if_pos (by decide)]
  have made : Heap.MadeExcOf h ((h.push { cls := .type "tuple", data := .seq rest.toArray }).push { cls := .ref C, data := .fields #[.ref h.objs.size, .none, .none, .none, .bool false, .none] }) (h.objs.size + 1) (.ref C) rest :=
    ⟨kp, Heap.get?_none_of_le (Nat.le_succ _), h.objs.size, hget1, Heap.get?_none_of_le (Nat.le_refl _), Heap.get?_push_of_some _ (Heap.get?_push_at rfl rfl)⟩
  refine wpAny_pure (wpAny_bind (wpAny_mono (hq _ _ made) (fun r s' hr => ?_) fun _ _ x => x))
  obtain ⟨rfl, hQ⟩ := hr
  wp_walk
  exact hQ
theorem call_init {mN : Str → Option Value} {rest : List Value} {fI : Addr} {oI : Obj} {Q : Value → Shared → Prop} (Fn : ExcBaseFacts Bn newId inN bmN) (hBn : bmB.contains (.type Bn) = true) (FB : ExcBaseFacts B nid initId bmB) (T : OwnTail h bmB tl)
    (hob : h.get? C = some (excClassObj nm qn C N bs tl hdct sn sub ab col dd k0 k1 k2 k3 k5 newId)) (hns : h.Ns N mN) (hini : mN "__init__" = some (.ref fI)) (hfo : h.get? fI = some oI) (hfc : oI.cls = .type "function")
    (hq : ∀ h' e, Heap.MadeExcOf h h' e (.ref C) rest → wpAny (model prog w) (A.under (.builtin "type.__call__" ⟨.ref C :: rest, []⟩)) (call (.ref fI) (.ref e :: rest)) (fun r s' => r = .none ∧ Q (.ref e) s') E ⟨h', gs, dr, tk, os⟩) (hz : rest.length ≤ sizeLine) :
    wpAny (model prog w) A (call (.ref C) rest) Q E ⟨h, gs, dr, tk, os⟩ := by
  have l1 := tc_lookup
  have l2 := tc_bind (.ref C)
  have hTy : (⟨h, gs, dr, tk, os⟩ : Shared).TypeIs (.ref C) "type" := ⟨_, hob, rfl⟩
  refine wpAny_call (codeAny_of_tree ?_)
  show wpAny _ _ (callAny (.ref C) _) _ _ _
  repeat (any_goals (first | assumption | with_reducible refine wpAny_loadPart_at hob ?_ | wp_step))
  refine ⟨rfl, codeAny_call_builtin_at (Code.quiet_builtin _ (by decide +kernel)) entry_typeCall (wpAny_check_type_call_sub hob (type_call_init Fn hBn FB T hob hns hini hfo hfc (fun h' e hm => ?_) hz))⟩
  exact hq h' e hm
end
end L2

namespace L2
open PySem PySem.Spec PyProof.Rows
/-! ### own exceptions with an __init__ and attributes of their own -/
def newX (e C : Addr) (od : Option Addr) : HO := .ext fun h => ∃ vs sl, h.get? e = some ⟨.ref C, od, .fields vs, sl⟩ ∧ vs[1]? = some .none
def xdO (dx : Addr) (fs : List (Str × V)) : HO := .ext fun h => ∃ mA, h.Ns1 dx mA ∧ (∀ f, RelO (fs.lookup f) (mA f)) ∧ PySem.Within mA (fs.map (·.1))
section
variable {P : Program} {w : World} {H : Hp} {h : Heap}
theorem newX_ok {e C : Addr} {od : Option Addr} {vs : Array Value} {sl : Array (Option Value)} (he : h.get? e = some ⟨.ref C, od, .fields vs, sl⟩) (h1 : vs[1]? = some .none) : ObjOk P w H h e (newX e C od) :=
  ⟨⟨vs, sl, he, h1⟩, ⟨_, he⟩, fun _ _ ⟨v, s, e, z⟩ k => ⟨v, s, k _ e, z⟩⟩
theorem xdO_ok {dx : Addr} {fs : List (Str × V)} {mA : Str → Option Value} (n : h.Ns1 dx mA) (r : ∀ f, RelO (fs.lookup f) (mA f)) (wi : PySem.Within mA (fs.map (·.1))) : ObjOk P w H h dx (xdO dx fs) :=
  ⟨⟨mA, n, r, wi⟩, (let ⟨o, _, _, e, _⟩ := n; ⟨o, e⟩), fun _ _ ⟨m, n, r, wi⟩ k => ⟨m, n.at k, r, wi⟩⟩
end
def del (H : Hp) (e : Addr) : Hp := fun b => if b = e then none else H b
theorem del_ne {H : Hp} {e b : Addr} (h : b ≠ e) : del H e b = H b := by unfold del; rw [if_neg h]
theorem del_same {H : Hp} {e : Addr} : del H e e = none := by unfold del; rw [if_pos rfl]
theorem del_none {H : Hp} {e b : Addr} (h : H b = none) : del H e b = none := by unfold del; split <;> first | rfl | exact h
theorem upd_eq {H : Hp} {a : Addr} {o : HO} (h : H a = some o) : upd H a o = H := by
  funext b
  unfold upd
  split
  · rename_i z; rw [z, h]
  · rfl
section
variable {X : Cx} {pins : List (Addr × Obj)} {σ : St} {H : Hp} {s : Shared}
theorem Inv.drop {e : Addr} {φ : Heap → Prop} (I : Inv X pins σ H s) (he : H e = some (.ext φ)) : Inv X pins σ (del H e) s := by
  have ne : ∀ {b : Addr} {o : HO}, H b = some o → (∀ ψ, o ≠ .ext ψ) → b ≠ e := fun {b o} hb n z => by
    subst z
    rw [he] at hb
    exact n _ (Option.some.inj hb).symm
  refine ⟨I.ok, I.os, I.bare, ⟨I.base.keep, I.base.slot, fun b ob q n hx => del_none (I.base.free b ob q n hx), I.base.there, fun b xs q => ?_, fun b ob u q => ?_, fun b ps q => ?_⟩, I.loc, I.cell, del_none I.free, fun x c q => del_none (I.freeC x c q), fun p hp => ?_, fun b u q => ?_, I.len, I.up⟩
  · have q' := I.base.tups b xs q
    rw [del_ne (ne q' fun ψ z => by cases z)]; exact q'
  · have q' := I.base.frzs b ob u q
    rw [del_ne (ne q' fun ψ z => by cases z)]; exact q'
  · obtain ⟨more, q'⟩ := I.base.tbls b ps q
    exact ⟨more, by rw [del_ne (ne q' fun ψ z => by cases z)]; exact q'⟩
  · obtain ⟨a, n, r⟩ := I.pin p hp
    exact ⟨a, del_none n, r⟩
  · have hb : b ≠ e := fun z => by rw [z, del_same] at q; cases q
    rw [del_ne hb] at q
    exact (I.hok b u q).stay (fun c v _ r => r) (fun c r => by rw [del_ne (ne r fun ψ z => by cases z)]; exact r) fun c xs r => by rw [del_ne (ne r fun ψ z => by cases z)]; exact r
end
section
variable {M : Model} {A : Around} {E : Value → Shared → Prop} {env : Env}
variable {nm q : Str} {C N : Addr} {bs bm : List Value} {hdct : Bool} {sn : List Str} {sub : List Value} {ab : Bool} {col : Option Bool} {dd : Option Addr} {k0 k1 k2 k3 k5 : Option Value} {newId : String}
theorem raise_made {s : Shared} {x : Sem Value} {Q : Flow → Shared → Prop} (hbase : bm.contains (.type "BaseException") = true) (hh : A.handled = none)
    (h : wpAny M A x (fun v s₁ => ∃ e od vs sl, v = .ref e ∧ s₁.heap.get? C = some (excClassObj nm q C N bs bm hdct sn sub ab col dd k0 k1 k2 k3 k5 newId) ∧
      s₁.heap.get? e = some ⟨.ref C, od, .fields vs, sl⟩ ∧ vs[1]? = some .none ∧ E (.ref e) s₁) E s) : wpAny M A (raiseStmt env (some x) none) Q E s := by
  have hcB : (Value.ref C :: bm).contains (.type "BaseException") = true := by rw [List.contains_cons, hbase, Bool.or_true]
  unfold raiseStmt
  refine wpAny_bind (wpAny_mono h (fun v s₁ h₁ => ?_) fun _ _ x => x)
  obtain ⟨e, od, vs, sl, rfl, hC, he, hv, hE⟩ := h₁
  obtain ⟨hp, g, d, tk, os⟩ := s₁
  repeat (first | with_reducible refine wpAny_loadPart_at he ?_ | with_reducible refine wpAny_loadPart_at hC ?_ | (with_reducible refine wpAny_isSubtype_exc hC ?_; rw [hcB]) | wp_step)
  rw [hv]
  refine wpAny_pure ?_
  rw [if_neg (by decide)]
  exact wpAny_pure (wpAny_raiseNew_none hh hE)
end
/-! ### what is known of the classes -/
def veMro : List Value := [.type "ValueError", .type "Exception", .type "BaseException", .type "object"]
structure XClsI (K : PySem.W.Frag) (C fI : Addr) : Prop where
  obj : ∀ h : Heap, K.In h → ∃ d : XP, h.get? C = some (d.obj C "ValueError.__new__") ∧ h.Ns d.N d.mN ∧ d.mN "__init__" = some (.ref fI) ∧ OwnTail h veMro d.bm
def excInI (K : PySem.W.Frag) (C fI : Addr) : Bool := match K.lookup C with
  | some ⟨.type "type", _, .cls cd, sl⟩ => (match cd.mro, sl.toList with
    | .ref C' :: bm, [_, _, _, _, some (.builtin n), _] => C' == C && n == "ValueError.__new__" && !cd.hasDel && PySem.W.tailIn K veMro bm && PySem.W.nsOkIn K cd.ns && PySem.W.nsIn K cd.ns "__init__" == some (some (.ref fI))
    | _, _ => false)
  | _ => false
theorem ns_some_of {K : PySem.W.Frag} {h : Heap} {N : Addr} {mg : Str → Option Value} {n : Str} {v : Value} (X : K.In h) (G : h.Ns N mg) (e : PySem.W.nsIn K N n = some (some v)) : mg n = some v := by
  obtain ⟨o, es, ep, ho, hd, _, hf⟩ := G
  unfold PySem.W.nsIn at e
  split at e
  · rename_i c d es' n' sl q
    have := X _ _ q
    rw [ho] at this
    cases this
    cases hd
    split at e
    · rename_i he
      cases e
      rw [← hf]
      unfold nsFind findBy
      rw [← Array.find?_toList, he]
      rfl
    · split at e
      · cases e
      · cases e
  · cases e
theorem xclsI_of {K : PySem.W.Frag} {C fI : Addr} (q : excInI K C fI = true) : XClsI K C fI := by
  refine ⟨fun h k => ?_⟩
  unfold excInI at q
  split at q
  · rename_i dd cd sl hob
    split at q
    · rename_i C' bm k0 k1 k2 k3 nn k5 hmr hsl0
      simp only [Bool.and_eq_true, beq_iff_eq, Bool.not_eq_true'] at q
      obtain ⟨⟨⟨⟨⟨e1, e2⟩, e3⟩, e4⟩, e5⟩, e6⟩ := q
      subst e1 e2
      obtain ⟨nm, bs, mro, ns, qn, hd, sn, sub, ab, col, del⟩ := cd
      dsimp only at hmr e3 e5 e6
      subst hmr e3
      have hsl : sl = #[k0, k1, k2, k3, some (.builtin "ValueError.__new__"), k5] := by
        obtain ⟨l⟩ := sl
        simp only at hsl0
        rw [hsl0]
      subst hsl
      have G : h.Ns ns _ := .of_isNs (PySem.W.isNs_of_in k e5)
      exact ⟨⟨nm, qn, ns, bs, bm, hd, sn, sub, ab, col, dd, k0, k1, k2, k3, k5, _⟩, k _ _ hob, G, ns_some_of k G e6, PySem.W.tail_of_in k e4⟩
    · cases q
  · cases q
structure XBase (K : PySem.W.Frag) (W : Addr) : Prop where
  ga : PySem.W.specialIn K (.ref W) "__getattribute__" = some (some (.builtin "type.__getattribute__"))
  rd : PySem.W.readsIn K W (.type "type") = true
  fd : PySem.W.findCls K (.ref W) (.type "type") "__init__" = some (.val (.builtin "ValueError.__init__"))
def tailVE : List Value → Bool
  | [] => false
  | v :: r => (v :: r) == veMro || match v with | .ref _ => tailVE r | _ => false
structure XSt (K : PySem.W.Frag) (C : Addr) : Prop where
  hd : PySem.W.hasDictIn K C = true
  po : ((PySem.W.clsIn K C).any fun cd => tailVE cd.mro) = true
  sa : PySem.W.findIn K (.ref C) "__setattr__" = some (some (.builtin "object.__setattr__"))
theorem refuse_ve (self : Value) : ∀ {l : List Value}, tailVE l = true → refuseLoop self "__setattr__" l = pure ()
  | [], e => by cases e
  | v :: r, e => by
    unfold tailVE at e
    rcases Bool.or_eq_true_iff.mp e with q | q
    · rw [beq_iff_eq.mp q]; exact PySem.F.store_ValueError.passes self
    · split at q
      · rw [refuseLoop_ref]; exact refuse_ve self q
      · cases q
theorem ve_has : ∀ {l : List Value}, tailVE l = true → l.contains (.type "object") = true
  | [], e => by cases e
  | v :: r, e => by
    unfold tailVE at e
    rcases Bool.or_eq_true_iff.mp e with q | q
    · rw [beq_iff_eq.mp q]; decide +kernel
    · split at q
      · rw [List.contains_cons, ve_has q, Bool.or_true]
      · cases q
end L2

namespace L2
open PySem PySem.Spec PyProof.Rows
/-! ### Base.__init__(self, text) -/
def tBase (K : PySem.W.Frag) (t : TA) : TE := fun σ H Q => t σ H fun vs H1 => ∃ e C fI od y, vs = [.ref e, y] ∧ H1 e = some (newX e C od) ∧ XClsI K C fI ∧ Q .non H1
theorem pe_base {X : Cx} {x : Str} {W : Addr} {np apos cpos : Pos} {a b : Expr} {t : TA} {pl : Sem Bool} (hW : XBase X.K W) (hg : Gl X x) (hm : X.mg x = some (.ref W)) (ha : PA X [a, b] t) (hdb : (x == ("__debug__" : Str)) = false := by decide)
    (hev : eval (.Call (.Attribute (.Name x np) "__init__" apos) [a, b] [] cpos) X.env = (do
      let ov ← eval (.Name x np) X.env
      standAt apos.atName
      let (f, first) ← holding [ov] (getMethod ov "__init__" pl)
      callWith cpos f first (backTo cpos (starEach [a, b] X.env)) (backToKw cpos (keywordEach [] X.env))) := by rfl)
    (hs : starEach [a, b] X.env = (false, eval a X.env) :: starEach [b] X.env := by rfl) (hpl : (backTo cpos (starEach [b] X.env)).any (·.1) = false := by rfl) :
    PE X (.Call (.Attribute (.Name x np) "__init__" apos) [a, b] [] cpos) (tBase X.K t) := by
  intro pins s σ H Q I h
  refine PySem.W.methodCall_KW (pl := pl) (ld_glob I hg hm ?_ hdb) hev
  refine PySem.W.method_cls I.kIn hW.ga (PySem.W.cls_value I.kIn hW.rd hW.fd (by decide +kernel) ?_)
  have hA := ha cpos pins { s with toks := s.toks + 1 } σ H _ (I.tok _) h
  rw [hs] at hA ⊢
  refine Calls.callWith_builtin (by show (false || (backTo cpos (starEach [b] X.env)).any (·.1)) = false; rw [hpl] <;> rfl) (Calls.evalArgs_plain ?_)
  refine thn hA fun us s2 ⟨vs, H2, I2, r2, e, C, fI, od, y, e1, hx, O, q⟩ => ?_
  subst e1
  obtain ⟨u1, u2, rfl, ru1, _⟩ := vals2 r2
  cases (show u1 = Value.ref e from ru1)
  obtain ⟨⟨vs, sl, he, h1⟩, _, _⟩ := (show ObjOk X.prog X.w H2 s2.heap e (newX e C od) from I2.hok e _ hx)
  obtain ⟨d, hC, hN, hni, T⟩ := O.obj s2.heap I2.kIn
  have F := PySem.F.excBase_ValueError
  have I2' := I2
  obtain ⟨hh, gs, dr, tk, os⟩ := s2
  show wpAny _ _ (call (.builtin "ValueError.__init__") [.ref e, u2]) _ _ _
  refine wpAny_call (codeAny_call_builtin F.init.plain F.initEntry (wpAny_check_init_subU F T hC he rfl ?_))
  have hv : 0 < vs.size := Nat.lt_of_le_of_lt (Nat.zero_le 1) (Array.getElem?_eq_some_iff.mp h1).1
  have hv0 : vs[0]? = some vs[0] := Array.getElem?_eq_getElem hv
  wp_walk
  rw [hv0]
  refine wpAny_pure ?_
  have hg : (hh.push { cls := .type "tuple", data := .seq #[u2] }).get? e = some ⟨.ref C, od, .fields vs, sl⟩ := Heap.get?_push_of_some _ he
  refine wpAny_bind (wpAny_setField hg rfl hv ?_)
  have hu := Heap.get?_update_self (Obj.mapFields (·.setIfInBounds 0 (Value.ref hh.objs.size))) hg rfl
  have fin : EP X pins σ Q Value.none ⟨(hh.push { cls := .type "tuple", data := .seq #[u2] }).update e (Obj.mapFields (·.setIfInBounds 0 (Value.ref hh.objs.size))), gs, dr, tk, os⟩ := by
    refine ⟨.non, H2, ?_, rfl, q⟩
    have J1 := I2'.kept (h' := hh.push { cls := .type "tuple", data := .seq #[u2] }) (t' := tk) fun b u z => Heap.get?_push_of_some _ z
    have J2 := J1.write (x := e) (e := e) (o := newX e C od) (t' := tk) (by rw [hx]; exact True.intro) (.inl rfl) (fun b u hb z => (Heap.get?_update_other _ _ (Ne.symm hb)).trans z) ⟨_, hu⟩ (newX_ok hu (by simp [h1]))
    rw [upd_eq hx] at J2
    exact J2
  cases hq : vs[0] with
  | ref t0 => exact wpAny_letGo (wpAny_pure fin)
  | _ => exact wpAny_pure (wpAny_pure fin)
end L2

namespace L2
open PySem PySem.Spec PyProof.Rows
section
variable {prog : Program} {w : World} {A : Around} {E : Value → Shared → Prop} {s : Shared} {K : PySem.W.Frag} {x dx C : Addr} {name : Str} {v : Value} {R : Result → Shared → Prop}
theorem osa_exc {ox : Obj} {od : Option Obj} {tk : Tok} (X : K.In s.heap) (I : PySem.W.InstAt s.heap x ox C od) (S : XSt K C) (ht : PySem.W.takerIn K C name = some none)
    (h : ∀ b, wpAny (model prog w) A.in1 (Builtin.ObjectAttr.storeInOwnDict (.ref x) (.ref C) (.str name tk) name v b)
      (fun fin s' => match fin with | .done f => R (.ok f) s' | .again c' => c'.quiet = true ∧ codeAny (model prog w) A c' R s') (fun e s' => R (.error e) s') s) :
    codeAny (model prog w) A (.call (.builtin "object.__setattr__") ⟨[.ref x, .str name tk, v], []⟩) R s := by
  have SF := PySem.F.store_object
  obtain ⟨cd, hc, ho⟩ := PySem.W.any_some S.po
  have ne : cd.mro.isEmpty = false := by cases q : cd.mro with | nil => rw [q] at ho; cases ho | cons _ _ => rfl
  have sub : PySem.W.Looks (model prog w) s.heap (isInstance (.ref x) (.type "object")) true := I.type.andThen (PySem.W.looks_mroIn X (by unfold PySem.W.mroIn; rw [hc, Option.bind_some, if_neg (by rw [ne]; decide), ve_has ho]))
  refine codeAny_call_builtin SF.slot.plain SF.entry (@PySem.W.check_slot (model prog w) _ _ s "object.__setattr__" "object" "__setattr__" (.ref x) [.str name tk, v] [] _ SF.kind SF.split sub (SF.args (.ref x) (.str name tk) v) ?_)
  obtain ⟨attr, ha, hr⟩ := Option.bind_eq_some_iff.mp ht
  have hm : PySem.W.Looks (model prog w) s.heap (mroOf (.ref C)) cd.mro := (PySem.W.looks_clsIn X hc).andThen .now
  have L3 : PySem.W.Looks (model prog w) s.heap (Builtin.ObjectAttr.storeTaker? attr) none := by
    cases attr with
    | none => cases hr; exact .now
    | some a =>
      obtain ⟨b, hb, e⟩ := Option.map_eq_some_iff.mp hr
      refine (PySem.W.looks_takesIn X hb).andThen ?_
      cases b with
      | false => exact .now
      | true => cases e
  rw [PySem.W.osa_eq, refuse_eq]
  refine wpAny_bind (wpAny_bind (I.type.here (wpAny_bind (hm.here ?_))))
  rw [refuse_ve _ ho]
  refine wpAny_pure (wpAny_bind (I.type.here (wpAny_bind ((PySem.W.looks_findIn X ha).here (wpAny_bind (L3.here ?_))))))
  exact h _
theorem store_some {vs : Array Value} {sl : Array (Option Value)} {mA : Str → Option Value} {ns : List Str} {Q : Unit → Shared → Prop} (X : K.In s.heap) (S : XSt K C) (ht : PySem.W.takerIn K C name = some none)
    (he : s.heap.get? x = some ⟨.ref C, some dx, .fields vs, sl⟩) (hn : s.heap.Ns1 dx mA) (hw : PySem.Within mA ns) (hsz : ns.length + 1 ≤ sizeLine)
    (h : ∀ h', h'.Ns1 dx (fun y => if y = name then some v else mA y) → Heap.SameBut dx s.heap h' → Q () { s with heap := h', toks := s.toks + 2 }) : wpAny (model prog w) A (setAttr (.ref x) name v) Q E s := by
  obtain ⟨od, ho, hl⟩ := lookIn_ns hn
  have J : PySem.W.InstAt s.heap x ⟨.ref C, some dx, .fields vs, sl⟩ C (some od) := ⟨he, rfl, rfl, ho⟩
  refine PySem.W.set_plain X J S.sa (osa_exc (s := { s with toks := s.toks + 1 }) X J S ht fun b => ?_)
  obtain ⟨cd, hc, hd'⟩ := PySem.W.any_some S.hd
  refine wpAny_bind (wpAny_pure (wpAny_bind (wpAny_bind (wpAny_loadPart he (wpAny_bind (PySem.W.Looks.here (s := { s with toks := s.toks + 1 }) (PySem.W.looks_clsIn X hc) ?_))))))
  rw [hd']
  refine wpAny_pure (a := some dx) (wpAny_bind (wpAny_pure (wpAny_bind ?_)))
  refine wpAny_nsSet1 (s := { s with toks := s.toks + 1 }) hn fun h' hn2 hs2 => ?_
  obtain ⟨oD, esD, epD, hoD, hdD, hcD⟩ := hn2.count (PySem.Within.cons name v hw)
  refine wpAny_bind (wpAny_lookBehind hoD (by rw [hdD]; exact pastItsLine_dict (Nat.le_trans hcD (by rw [List.length_cons]; omega))) ?_)
  exact wpAny_pure (h _ hn2 hs2)
theorem store_none {vs : Array Value} {sl : Array (Option Value)} {Q : Unit → Shared → Prop} (X : K.In s.heap) (S : XSt K C) (ht : PySem.W.takerIn K C name = some none)
    (he : s.heap.get? x = some ⟨.ref C, none, .fields vs, sl⟩)
    (h : ∀ h', h'.Ns1 s.heap.objs.size (fun y => if y = name then some v else none) → Heap.SameBut s.heap.objs.size ((s.heap.push PySem.W.emptyDict).update x fun o => { o with dict := some s.heap.objs.size }) h' → Q () { s with heap := h', toks := s.toks + 2 }) : wpAny (model prog w) A (setAttr (.ref x) name v) Q E s := by
  have J : PySem.W.InstAt s.heap x ⟨.ref C, none, .fields vs, sl⟩ C none := ⟨he, rfl, rfl, trivial⟩
  refine PySem.W.set_plain X J S.sa (osa_exc (s := { s with toks := s.toks + 1 }) X J S ht fun b => ?_)
  obtain ⟨cd, hc, hd'⟩ := PySem.W.any_some S.hd
  refine wpAny_bind (wpAny_pure (wpAny_bind (wpAny_bind (wpAny_loadPart he (wpAny_bind (PySem.W.Looks.here (s := { s with toks := s.toks + 1 }) (PySem.W.looks_clsIn X hc) ?_))))))
  rw [hd']
  rw [if_neg (by decide)]
  have hxs : x ≠ s.heap.objs.size := Nat.ne_of_lt (Heap.lt_size he)
  have hx₁ : (s.heap.push PySem.W.emptyDict).get? x = some ⟨.ref C, none, .fields vs, sl⟩ := Heap.get?_push_of_some _ he
  show wpAny (model prog w) A.in1 (alloc PySem.W.emptyDict >>= fun d => update x (fun o => { o with dict := some d }) >>= fun _ => dictMade (.ref C) x d) _ _ _
  refine wpAny_bind (wpAny_alloc (wpAny_bind (wpAny_update hx₁ ?_)))
  refine wpAny_pure ?_
  have hgd : ((s.heap.push PySem.W.emptyDict).update x fun o => { o with dict := some s.heap.objs.size }).get? s.heap.objs.size = some PySem.W.emptyDict :=
    (Heap.get?_update_ne _ _ _ _ hxs.symm).trans (Heap.get?_push_size _ rfl)
  have hnd : ((s.heap.push PySem.W.emptyDict).update x fun o => { o with dict := some s.heap.objs.size }).Ns s.heap.objs.size (fun _ => none) :=
    ⟨_, #[], _, hgd, rfl, fun e he => absurd he (by simp), fun _ => rfl⟩
  show wpAny _ _ (Builtin.ObjectAttr.storeInDict s.heap.objs.size (.str name s.toks) name v) _ _ _
  refine wpAny_bind (wpAny_pure (wpAny_bind ?_))
  refine wpAny_nsSet1 (s := { s with heap := (s.heap.push PySem.W.emptyDict).update x fun o => { o with dict := some s.heap.objs.size }, toks := s.toks + 1 }) (Heap.Ns1.of_empty hnd) fun h' hn2 hs2 => ?_
  obtain ⟨oD, esD, epD, hoD, hdD, hcD⟩ := hn2.count (PySem.Within.cons name v PySem.Within.nil)
  refine wpAny_bind (wpAny_lookBehind hoD (by rw [hdD]; exact pastItsLine_dict (Nat.le_trans hcD (by rw [List.length_cons, List.length_nil, sizeLine_eq]; omega))) ?_)
  exact wpAny_pure (h _ hn2 hs2)
end
end L2

namespace L2
open PySem PySem.Spec PyProof.Rows
/-! ### the rules -/
theorem relO_put {fs : List (Str × V)} {mA : Str → Option Value} {f : Str} {y : V} {u : Value} (r : ∀ g, RelO (fs.lookup g) (mA g)) (ry : RelV y u) : ∀ g, RelO ((putF f y fs).lookup g) (if g = f then some u else mA g) := fun g => by
  rw [lookup_putF]
  by_cases q : g = f
  · rw [if_pos q, if_pos q]; exact ry
  · rw [if_neg q, if_neg q]; exact r g
theorem within_put {fs : List (Str × V)} {mA : Str → Option Value} {f : Str} {y : V} {u : Value} (wi : PySem.Within mA (fs.map (·.1))) : PySem.Within (fun g => if g = f then some u else mA g) ((putF f y fs).map (·.1)) := fun g hg => by
  by_cases q : g = f
  · rw [q]; exact (keys_putF f y fs).1
  · refine (keys_putF f y fs).2 g (wi g fun z => hg ?_)
    show (if g = f then some u else mA g) = none
    rw [if_neg q]; exact z
def sFldX (K : PySem.W.Frag) (ta tv : TE) (f : Str) : TS := fun D σ H => tv σ H fun y H1 => ta σ H1 fun x H2 => ∃ e C, x = .ref e ∧ XSt K C ∧ NoAttr K C f ∧
  ((H2 e = some (newX e C none) ∧ ∀ dx, H2 dx = none → D.nx σ (upd (upd (upd H2 dx (xdO dx [])) e (newX e C (some dx))) dx (xdO dx (putF f y [])))) ∨
    ∃ dx fs, H2 e = some (newX e C (some dx)) ∧ H2 dx = some (xdO dx fs) ∧ fs.length < 1000 ∧ D.nx σ (upd H2 dx (xdO dx (putF f y fs))))
theorem ps_fldX {X : Cx} {o value : Expr} {f : Str} {pos pos' : Pos} {ta tv : TE} (ha : PE X o ta) (hv : PE X value tv) (hs : swapsWith value (some (.Attribute o f pos')) pos.line X.env = pure false) : PS X (.Assign [.Attribute o f pos'] value pos) (sFldX X.K ta tv f) := by
  intro pins s σ H D I h
  refine plainObj_wpAny_Assign_Attribute (thn (hv pins s σ H _ I h) fun u s1 ⟨y, H1, I1, ry, q⟩ => thn (ha pins s1 σ H1 _ I1 q) fun ov s2 ⟨x, H2, I2, rx, e, C, ex, S, n, hk⟩ => ?_) hs
  subst ex
  obtain rfl : ov = Value.ref e := rx
  rcases hk with ⟨hx, q2⟩ | ⟨dx, fs, hx, hd, hl, q2⟩
  · obtain ⟨⟨vs, sl, he, h1⟩, _, _⟩ := (show ObjOk X.prog X.w H2 s2.heap e (newX e C none) from I2.hok e _ hx)
    refine store_none I2.kIn S n.taker he fun h' hn' sb => ?_
    have ne : e ≠ s2.heap.objs.size := Nat.ne_of_lt (Heap.lt_size he)
    have e1 : (s2.heap.push PySem.W.emptyDict).get? s2.heap.objs.size = some PySem.W.emptyDict := Heap.get?_push_size _ rfl
    have n1 : (s2.heap.push PySem.W.emptyDict).Ns1 s2.heap.objs.size (fun _ => none) := Heap.Ns1.of_empty ⟨_, #[], _, e1, rfl, (fun e he => absurd he (by simp)), fun _ => rfl⟩
    have he1 : (s2.heap.push PySem.W.emptyDict).get? e = some ⟨.ref C, none, .fields vs, sl⟩ := Heap.get?_push_of_some _ he
    have he2 := Heap.get?_update_self (fun o => { o with dict := some s2.heap.objs.size }) he1 rfl
    have J1 := I2.laid (a := s2.heap.objs.size) (o := xdO s2.heap.objs.size []) (h' := s2.heap.push PySem.W.emptyDict) (t' := s2.toks) (fun b u q => Heap.get?_push_of_some _ q) (Nat.le_refl _) (xdO_ok n1 (fun _ => True.intro) (fun y hy => absurd rfl hy))
    have J2 := J1.write (x := e) (e := e) (o := newX e C (some s2.heap.objs.size)) (t' := s2.toks) (by rw [upd_ne ne, hx]; exact True.intro) (.inl rfl) (fun b u hb q => (Heap.get?_update_other _ _ (Ne.symm hb)).trans q) ⟨_, he2⟩ (newX_ok he2 h1)
    have J3 := J2.write (x := s2.heap.objs.size) (e := s2.heap.objs.size) (o := xdO s2.heap.objs.size (putF f y [])) (h' := h') (t' := s2.toks + 2) (by rw [upd_ne (Ne.symm ne), upd_same]; exact True.intro) (.inl rfl) (fun b u hb q => (sb.2 b hb).trans q) (let ⟨o, _, _, e, _⟩ := hn'; ⟨o, e⟩)
      (xdO_ok hn' (relO_put (mA := fun _ => none) (fun _ => True.intro) ry) (within_put (mA := fun _ => none) fun y hy => absurd rfl hy)) (ht := by show s2.toks ≤ s2.toks + 2; omega)
    exact ⟨σ, _, J3, q2 _ (I2.hok.fresh (Nat.le_refl _))⟩
  · obtain ⟨⟨vs, sl, he, h1⟩, _, _⟩ := (show ObjOk X.prog X.w H2 s2.heap e (newX e C (some dx)) from I2.hok e _ hx)
    obtain ⟨⟨mA, nA, rA, wA⟩, _, _⟩ := (show ObjOk X.prog X.w H2 s2.heap dx (xdO dx fs) from I2.hok dx _ hd)
    refine store_some I2.kIn S n.taker he nA wA (by rw [List.length_map, sizeLine_eq]; omega) fun h' hn' sb => ?_
    have J3 := I2.write (x := dx) (e := dx) (o := xdO dx (putF f y fs)) (h' := h') (t' := s2.toks + 2) (by rw [hd]; exact True.intro) (.inl rfl) (fun b u hb q => (sb.2 b hb).trans q) (let ⟨o, _, _, e, _⟩ := hn'; ⟨o, e⟩) (xdO_ok hn' (relO_put rA ry) (within_put wA))
    exact ⟨σ, _, J3, q2⟩
structure XMk (K : PySem.W.Frag) (C f : Addr) : Prop where
  cls : XClsI K C f
  fn : PySem.W.isFn K (.ref f) = true
  kp : PySem.W.keepIn K (.ref C) = true
def tRaiseI (C : Addr) (sp : Sp) (E : St → XK) (t : TA) : TS := fun _ σ H => t σ H fun vs H1 => vs.length ≤ sizeLine ∧ ∀ e, H1 e = none →
  sp (.ref e :: vs) (upd H1 e (newX e C none)) (fun v H2 => v = .non ∧ ∃ od, H2 e = some (newX e C od) ∧ E σ (.ref C) od (del H2 e)) (E σ)
theorem ps_raiseI {X : Cx} {E : St → XK} {C f : Addr} {x : Str} {np cpos pos : Pos} {k : Nat} {fd : FuncData} {ps : List Str} {sp : Sp} {e : Expr} {es : List Expr} {t : TA} (L : Lets X E) (M : XMk X.K C f)
    (F : FnOk X.prog X.w X.K X.mg X.base (CXs X.prog X.w) k f fd ps sp) (hr : Room (k + 1) X.A) (hb : Binds X.K fd ps []) (hc : X.calm = true)
    (hg : Gl X x) (hm : X.mg x = some (.ref C)) (ha : PA X (e :: es) t) (hdb : (x == ("__debug__" : Str)) = false := by decide) (he : starEach (e :: es) X.env = (false, eval e X.env) :: starEach es X.env := by rfl)
    (hpl : (backTo cpos (starEach es X.env)).any (·.1) = false := by rfl) : PS X (.Raise (some (.Call (.Name x np) (e :: es) [] cpos)) none pos) (tRaiseI C sp E t) := by
  intro pins s σ H D I h
  obtain ⟨d, hC, hN, hni, T⟩ := M.cls.obj X.base I.ok.mod.kin
  rw [arm_exec_Raise]
  have FB := PySem.F.excBase_ValueError
  simp only [evalOpt, Option.map]
  refine wpAny_bind (wpAny_standAt (raise_made (C := C) (nm := d.nm) (q := d.q) (N := d.N) (bs := d.bs) (bm := d.bm) (hdct := d.hdct) (sn := d.sn) (sub := d.sub) (ab := d.ab) (col := d.col) (dd := d.dd) (k0 := d.k0) (k1 := d.k1) (k2 := d.k2) (k3 := d.k3) (k5 := d.k5) (newId := "ValueError.__new__") (T.hasType FB.hasBase) (I.ok.hd hc) ?_))
  refine wpAny_bind (thn (Q := fun v s₁ => ∃ e od vs sl, v = .ref e ∧ s₁.heap.get? C = some (d.obj C "ValueError.__new__") ∧ s₁.heap.get? e = some ⟨.ref C, od, .fields vs, sl⟩ ∧ vs[1]? = some .none ∧ X.xe (.ref e) s₁) ?_ fun v s2 h2 => wpAny_bind (wpAny_standAt (wpAny_pure h2)))
  refine wpAny_Call_Name_kw (ld_glob I hg hm ?_ hdb)
  refine PySem.W.callWith_K (h₀ := X.base) I.ok.mod.kin M.kp (thn (ha cpos pins s σ H _ I h) fun us s1 ⟨vs, H1, I1, r, hl, q1⟩ => ⟨I1.kIn, ?_⟩) he hpl
  have hfo : ∃ o, s1.heap.get? f = some o ∧ o.cls = .type "function" := by
    obtain ⟨o, ho, hc⟩ := Option.map_eq_some_iff.mp (beq_iff_eq.mp M.fn)
    exact ⟨o, I1.kIn _ _ ho, hc⟩
  obtain ⟨oI, hfo, hfc⟩ := hfo
  have I1' := I1
  obtain ⟨hh, gs, dr, tk, os⟩ := s1
  refine call_init (N := d.N) (mN := d.mN) FB FB.hasB FB (T.keeps I1.bk) (I1.bk _ _ hC) (hN.keeps I1.bk) hni hfo hfc (fun h' ea made => ?_) (by show us.length ≤ sizeLine; rw [← r.length]; exact hl)
  obtain ⟨t', ht, _, _⟩ := made.there
  have xo := I1.xok made.new (I1.hok.none_of made.new)
  have J0 : Inv X pins σ H1 ⟨h', gs, dr, tk, os⟩ := I1.kept (t' := tk) made.keeps
  have J1 : Inv X pins σ (upd H1 ea (newX ea C none)) ⟨h', gs, dr, tk, os⟩ := J0.tracks xo (newX_ok ht rfl)
  have hq := q1 ea xo.1
  have r2 : Vals (V.ref ea :: vs) (Value.ref ea :: us) := .cons rfl r
  have hlen : (Value.ref ea :: us).length = ps.length := by rw [← r2.length]; exact F.len _ _ _ _ hq
  refine wpAny_call (codeAny_mono (F.run _ X.stack _ _ ⟨Value.ref ea :: us, []⟩ (Value.ref ea :: us) _ _ (E σ) (hr.make C us []) (J1.env0.make C us []) (by have z := hb _ (Value.ref ea :: us) J1.kIn (by rw [List.append_nil]; exact hlen); rw [List.append_nil] at z; exact z) r2 hq) fun rr s' hq' => ?_)
  cases rr with
  | error e => exact L.pass J1 hq'
  | ok fl =>
    cases fl with
    | ret u =>
      obtain ⟨v, H', I3, rv, ev, od, hx, qE⟩ := J1.after hq'
      subst ev
      obtain ⟨⟨vs', sl', he', h1'⟩, _, _⟩ := (show ObjOk X.prog X.w H' s'.heap ea (newX ea C od) from I3.hok ea _ hx)
      refine ⟨rv, ea, od, vs', sl', rfl, I3.bk _ _ hC, he', h1', ?_⟩
      exact L pins σ (del H' ea) s' ea (.ref C) od (I3.drop hx) ⟨⟨del_same, xo.2⟩, vs', sl', he', .inl h1'⟩ qE
    | next => exact False.elim hq'
    | brk => exact False.elim hq'
    | cont => exact False.elim hq'
end L2

namespace L2
open PySem PySem.Spec PyProof.Rows
section
variable {X : Cx} {a b c : Expr} {ta tb tc : TE} {pos : Pos} {rest : List Expr}
end
end L2

namespace L2
open PySem PySem.Spec PyProof.Rows
end L2

namespace GP
open PySem L2 GwM
/-! ### manners, and layings that are refused -/
theorem log_small {n : Nat} (h : n ≤ 100000) : ((n : Nat) : Int).natAbs.log2 < 1920 := by
  rw [Int.natAbs_natCast]
  by_cases z : n = 0
  · subst z; decide
  · rw [Nat.log2_lt z]
    exact Nat.lt_of_le_of_lt h (Nat.lt_of_lt_of_le (show 100000 < 2 ^ 20 by decide) (Nat.pow_le_pow_right (by decide) (by decide)))
theorem fit_app {a b : Str} {m n : Nat} (h1 : a.length ≤ m) (h2 : b.length ≤ n) : (a ++ b).length ≤ m + n := by rw [strLen_append]; omega
theorem dec_vint {i j : Int} : decide (V.int i = V.int j) = decide (i = j) := by
  by_cases h : i = j
  · subst h; simp
  · rw [decide_eq_false h, decide_eq_false (fun z => h (V.int.inj z))]
theorem ite_str {i j : Str} {A B : Prop} (h1 : i = j → A) (h2 : ¬ i = j → B) : if (decide (V.str i = V.str j)) = true then A else B := by
  by_cases h : i = j
  · rw [if_pos (by rw [h]; simp)]; exact h1 h
  · rw [if_neg (by rw [decide_eq_false (fun z => h (V.str.inj z))]; exact Bool.false_ne_true)]; exact h2 h
def mayE (m f s : Str) (q : Fra) : Bool :=
  if m = Str.ofString "whole" then decide (q.1 = (f.cps.size : Int)) && decide (q.2 = (s.cps.size : Int)) else if m = Str.ofString "stretch" then true else decide (q.1 = (f.cps.size : Int))
def spMayE (K : PySem.W.Frag) : Sp := fun vs H Q _ => ∃ (m f s : Str) (a : Addr) (q : Fra), vs = [.str m, .str f, .str s, .ref a] ∧ FrAt K H a q ∧ f.cps.size ≤ 1000 ∧ s.cps.size ≤ 1000 ∧ Q (.bl (mayE m f s q)) H
end GP

namespace L2
open PySem PySem.Spec PyProof.Rows
/-! ### a caught exception: an attribute of its own -/
theorem exc_attr {prog : Program} {w : World} {A : Around} {E : Value → Shared → Prop} {s : Shared} {K : PySem.W.Frag} {x C : Addr} {ox : Obj} {od : Option Obj} {name : Str} {expr : Bool} {v : Value} {Q : Value → Shared → Prop} (Z : XTy K C) (k : K.In s.heap) (I : PySem.W.InstAt s.heap x ox C od)
    (hf : PySem.W.findObj K C od name = some (.value v)) (hd : PySem.W.handedIn v = true) (h : Q v { s with toks := s.toks + 1 }) : wpAny (model prog w) A (getAttr (.ref x) name expr) Q E s := by
  obtain ⟨hh, g, d, t, os⟩ := s
  have L0 := I.type (M := model prog w)
  have L1 := PySem.W.looks_findIn (M := model prog w) k Z.ga
  have L2 := PySem.W.looks_findIn (M := model prog w) k Z.gn
  have LB := PySem.W.looks_mroIn (M := model prog w) k Z.hb
  have LF := PySem.W.looks_find (M := model prog w) k I hf
  unfold getAttr getAttrBy
  refine wpAny_bind (wpAny_mkText (wpAny_holding (wpAny_bind (L0.at (wpAny_bind (L1.at ?_))))))
  show wpAny _ _ (getAttrByItsOwn _ _ _ _ _ _) _ _ _
  unfold getAttrByItsOwn hookBefore
  refine wpAny_bind (L2.at ?_)
  refine wpAny_bind (wpAny_attempt (wpAny_holding ?_))
  have e0 : ∀ n : Value, callGetattribute (.ref x) n (.builtin "BaseException.__getattribute__") expr = boundAndCalled (.builtin "BaseException.__getattribute__") (.ref x) n := fun n => by
    unfold callGetattribute
    cases expr <;> rfl
  rw [e0]
  unfold boundAndCalled
  refine wpAny_bind (wpAny_of_eq (PySem.F.attr_ValueError.ga.bind (.ref x)) ?_)
  show wpAny _ _ (call (.builtin "BaseException.__getattribute__") [.ref x, .str name t]) _ _ _
  refine wpAny_call (codeAny_call_builtin PySem.F.attr_ValueError.ga.plain PySem.F.entry_bexc_ga ?_)
  have c1 : builtinKind "BaseException.__getattribute__" = some .slot := by decide +kernel
  have c2 : splitId "BaseException.__getattribute__" = some ("BaseException", "__getattribute__") := by decide +kernel
  have c3 := PySem.F.args_bexc_ga (.ref x) (.str name t)
  simp only [checkBuiltinCall, c1, c2]
  refine wpAny_bind (wpAny_bind (L0.at (LB.at ?_)))
  simp only [Bool.not_true, Bool.false_eq_true, if_false]
  unfold argsOk at c3
  refine wpAny_of_eq c3 ?_
  unfold Builtin.«object.__getattribute__»
  refine wpAny_bind (wpAny_pure (wpAny_bind (wpAny_pure (wpAny_bind (L0.at (wpAny_bind (LF.at ?_)))))))
  refine wpAny_pure ?_
  show wpAny _ _ (handedOut v) _ _ _
  rw [PySem.W.handedOut_of hd]
  exact wpAny_pure h
def tFldE (K : PySem.W.Frag) (ta : TE) (f : Str) : TE := fun σ H Q => ta σ H fun x H1 => ∃ e C dx fs i, x = .ref e ∧ H1 e = some (exO e (.ref C) (some dx)) ∧ H1 dx = some (xdO dx fs) ∧ XTy K C ∧ NoAttr K C f ∧ fs.lookup f = some (.int i) ∧ Q (.int i) H1
theorem inst_exc {P : Program} {w : World} {H : Hp} {h : Heap} {e C dx : Addr} {fs : List (Str × V)} (hok : HOk P w H h) (he : H e = some (exO e (.ref C) (some dx))) (hd : H dx = some (xdO dx fs)) :
    ∃ ox od, ∃ mA : Str → Option Value, PySem.W.InstAt h e ox C (some od) ∧ (∀ name, PySem.W.lookIn name od = some (mA name)) ∧ ∀ f, RelO (fs.lookup f) (mA f) := by
  obtain ⟨⟨vs, sl, h1⟩, _, _⟩ := (show ObjOk P w H h e (exO e (.ref C) (some dx)) from hok e _ he)
  obtain ⟨⟨mA, nA, rA, wA⟩, _, _⟩ := (show ObjOk P w H h dx (xdO dx fs) from hok dx _ hd)
  obtain ⟨od, ho, hl⟩ := lookIn_ns nA
  exact ⟨_, od, mA, ⟨h1, rfl, rfl, ho⟩, hl, rA⟩
theorem pe_fldE {X : Cx} {e : Expr} {f : Str} {pos : Pos} {ta : TE} (he : PE X e ta) (hb : attributeBase e f X.env (eval e X.env) = eval e X.env) : PE X (.Attribute e f pos) (tFldE X.K ta f) := by
  intro pins s σ H Q I h
  refine attr_of hb (thn (he pins s σ H _ I h) fun u s1 ⟨x, H1, I1, rx, e, C, dx, fs, i, ex, hx, hd, Z, n, l, q⟩ => ?_)
  subst ex
  obtain rfl : u = Value.ref e := rx
  obtain ⟨ox, od, mA, J, hl, rA⟩ := inst_exc I1.hok hx hd
  have r := rA f
  rw [l] at r
  cases hm : mA f with
  | none => rw [hm] at r; exact r.elim
  | some u =>
    rw [hm] at r
    obtain ⟨t, rfl⟩ := (show ∃ t, u = Value.int i t from r)
    refine exc_attr Z I1.kIn J ?_ rfl ⟨.int i, H1, I1.tok _, ⟨t, rfl⟩, q⟩
    obtain ⟨cd, hc, hdd⟩ := PySem.W.any_some Z.hd
    have hn : PySem.W.findIn X.K (.ref C) f = some none := n
    unfold PySem.W.findObj
    rw [hc, Option.bind_some, hn, Option.bind_some]
    simp only [Option.bind_some, PySem.W.ownOf, hdd, if_true, hl, hm]
theorem call_isinstXD {X : Cx} : CallR X (.builtin "isinstance") (fun xs H Q => ∃ ea C od c cv b, xs = [.ref ea, c] ∧ ((∃ D, c = .ref D ∧ cv = .ref D) ∨ ∃ T, c = .ty T ∧ cv = .type T) ∧ H ea = some (exO ea (.ref C) od) ∧ (od = none ∨ ∃ dx fs, od = some dx ∧ H dx = some (xdO dx fs)) ∧ XTy X.K C ∧ PySem.W.kitOne X.K (.ref C) cv = some b ∧ Q (.bl b) H) := by
  intro pins s σ H vs us Q I r h
  obtain ⟨ea, C, od, c, cv, b, rfl, hc, hx, hod, Z, hk, q⟩ := h
  obtain ⟨u, u2, rfl, rx, rc⟩ := vals2 r
  cases (show u = Value.ref ea from rx)
  have e2 : u2 = cv := by
    rcases hc with ⟨D, rfl, rfl⟩ | ⟨T, rfl, rfl⟩
    · exact rc
    · exact rc
  subst e2
  rcases hod with rfl | ⟨dx, fs, rfl, hd⟩
  · obtain ⟨⟨ws, sl, e⟩, _, _⟩ := (show ObjOk X.prog X.w H s.heap ea (exO ea (.ref C) none) from I.hok ea _ hx)
    exact TK.wpAny_up (Nat.le_refl s.toks) (PySem.W.kia_one (kitx_exc (ox := ⟨.ref C, none, .fields ws, sl⟩) (od := none) Z) I.kIn ⟨e, rfl, rfl, trivial⟩ hk (fun z => nomatch z) fun tk hup => ⟨.bl b, H, I.tok tk, rfl, q⟩)
  · obtain ⟨ox, o, mA, J, hl, rA⟩ := inst_exc I.hok hx hd
    exact TK.wpAny_up (Nat.le_refl s.toks) (PySem.W.kia_one (kitx_exc (ox := ox) (od := some o) Z) I.kIn J hk (fun z => nomatch z) fun tk hup => ⟨.bl b, H, I.tok tk, rfl, q⟩)
/-! ### a text so many times -/
theorem strExt {x y : Str} (h : x.cps = y.cps) : x = y := by
  cases x
  cases y
  exact congrArg Str.mk h
def repS (x : Str) (n : Int) : Str := ⟨(List.replicate n.toNat x.cps).foldl (· ++ ·) #[]⟩
theorem rep_toList (a : Array Nat) : ∀ (n : Nat) (b : Array Nat), ((List.replicate n a).foldl (· ++ ·) b).toList = b.toList ++ (List.replicate n a.toList).flatten
  | 0, b => by simp
  | n + 1, b => by
    rw [List.replicate_succ, List.foldl_cons, rep_toList a n, List.replicate_succ, List.flatten_cons, Array.toList_append, List.append_assoc]
theorem repS_list (x : Str) (n : Int) : (repS x n).cps.toList = (List.replicate n.toNat x.cps.toList).flatten := by
  unfold repS
  rw [rep_toList]
  rfl
theorem repS_len (x : Str) (n : Int) : (repS x n).cps.size = n.toNat * x.cps.size := by
  rw [← Array.length_toList, repS_list, List.length_flatten, List.map_replicate, List.sum_replicate_nat]
  rfl
theorem op_repS {X : Cx} : OpR X (binaryOp .Mult) (fun x y H Q => ∃ z n, x = .str z ∧ y = .int n ∧ -1000000 ≤ n ∧ n ≤ 1000000 ∧ z.cps.size ≤ 1000000 ∧ n.toNat * z.cps.size ≤ sizeLine ∧ Q (.str (repS z n)) H) := by
  intro pins s σ H x y v u Q I rx ry h
  obtain ⟨z, n, rfl, rfl, h1, h2, h3, h4, q⟩ := h
  obtain ⟨t, rfl⟩ := rx
  obtain ⟨t', rfl⟩ := ry
  have hl : z.length = z.cps.size := rfl
  refine TK.wpAny_up (Nat.le_refl s.toks) (PySem.P.mul_str ?_ (fun k1 _ => ?_) (fun _ _ => ?_) ?_)
  · rw [decide_eq_false (by omega), decide_eq_false (by omega)]; rfl
  · have k2 : 1 ≤ n := by omega
    have : (2 ^ 63 - 1 : Int) / n ≥ 1000000 := by
      rw [ge_iff_le, Int.le_ediv_iff_mul_le (by omega)]
      calc 1000000 * n ≤ 1000000 * 1000000 := by omega
        _ ≤ _ := by decide
    omega
  · show decide (z.length * n.toNat > sizeLine) = false
    rw [hl, Nat.mul_comm]
    exact decide_eq_false (Nat.not_lt.mpr h4)
  · have fin : ∀ y : Str, y = repS z n → ∀ t k, s.toks ≤ k → EP X pins σ Q (.str y t) { s with toks := k } := fun y e t k hk => ⟨.str (repS z n), H, I.tok k hk, ⟨t, by rw [e]⟩, q⟩
    by_cases k1 : n < 1
    · rw [if_pos k1]
      refine ⟨Nat.zero_le _, fin _ ?_ _ _⟩
      unfold repS
      rw [show n.toNat = 0 by omega]
      rfl
    · rw [if_neg k1]
      by_cases k2 : (n == 1 || z.length == 0) = true
      · rw [if_pos k2]
        refine fin _ ?_ _ s.toks
        rcases Bool.or_eq_true_iff.mp k2 with k | k
        · have e : n = 1 := by simpa using k
          subst e
          show z = ⟨#[] ++ z.cps⟩
          simp
        · have e : z.cps.size = 0 := (show z.length = 0 from eq_of_beq k)
          have e1 := repS_len z n
          rw [e, Nat.mul_zero] at e1
          have a1 : z.cps = #[] := Array.eq_empty_of_size_eq_zero e
          have a2 : (repS z n).cps = #[] := Array.eq_empty_of_size_eq_zero e1
          have : z.cps = (repS z n).cps := a1.trans a2.symm
          exact strExt this
      · rw [if_neg k2]
        refine ⟨?_, fin _ rfl _ _⟩
        show (repS z n).cps.size ≤ sizeLine
        rw [repS_len]
        exact h4
end L2

namespace GP
open PySem L2 GwM
/-! ### slices of a text -/
theorem slice_of {x : Str} {lo hi : Option Int} {a b : Nat} (e : PySem.Builtin.Str.strSliceIndices lo hi 1 x.length = PySem.Builtin.Str.strSliceIndices (some (a : Int)) (some (b : Int)) 1 x.length) (hab : a ≤ b) (hb : b ≤ x.cps.size) : (Txt.slice x lo hi).cps.toList = (x.cps.toList.drop a).take (b - a) := by
  have hb' : b ≤ x.length := hb
  have f := StrLaws.sliced_plain x hab hb'
  unfold Txt.slice
  rw [e]
  split
  · next h =>
    have hl : (PySem.Builtin.Str.strSliceIndices (some (a : Int)) (some (b : Int)) 1 x.length).length = x.length := by simpa using h
    rw [StrLaws.strSliceIndices_plain hab hb', List.length_map, List.length_range] at hl
    have hl' : b - a = x.cps.size := hl
    have ha : a = 0 := by omega
    subst ha
    rw [List.drop_zero, List.take_of_length_le (by rw [Array.length_toList]; omega)]
  · exact f
theorem slice_lo {x : Str} {k : Int} (h0 : 0 ≤ k) (h1 : k ≤ (x.cps.size : Int)) : (Txt.slice x none (some k)).cps.toList = x.cps.toList.take k.toNat := by
  obtain ⟨n, rfl⟩ : ∃ n : Nat, k = (n : Int) := ⟨k.toNat, (Int.toNat_of_nonneg h0).symm⟩
  have e := slice_of (x := x) (lo := none) (hi := some (n : Int)) (a := 0) (b := n) (by
    simp only [PySem.Builtin.Str.strSliceIndices]
    simp
    rw [show max (0 : Int) (min 0 (x.length : Int)) = 0 by omega]) (Nat.zero_le _) (by omega)
  rw [e, List.drop_zero]
  rfl
theorem slice_hi {x : Str} {k : Int} (h0 : 0 ≤ k) (h1 : k ≤ (x.cps.size : Int)) : (Txt.slice x (some k) none).cps.toList = x.cps.toList.drop k.toNat := by
  obtain ⟨n, rfl⟩ : ∃ n : Nat, k = (n : Int) := ⟨k.toNat, (Int.toNat_of_nonneg h0).symm⟩
  have e := slice_of (x := x) (lo := some (n : Int)) (hi := none) (a := n) (b := x.cps.size) (by
    have hl : x.length = x.cps.size := rfl
    simp only [PySem.Builtin.Str.strSliceIndices, hl]
    simp
    rw [if_neg (show ¬ (x.cps.size : Int) < 0 by omega), show max (0 : Int) (min (x.cps.size : Int) (x.cps.size : Int)) = (x.cps.size : Int) by omega]) (by omega) (Nat.le_refl _)
  rw [e, List.take_of_length_le (by rw [List.length_drop, Array.length_toList]; omega)]
  rfl
theorem kit_str_dict {K : PySem.W.Frag} : PySem.W.kitOne K (.type "str") (.type "dict") = some false := by kernel_rfl
theorem kit_str_list {K : PySem.W.Frag} : PySem.W.kitOne K (.type "str") (.type "list") = some false := by kernel_rfl
theorem kit_str_tuple {K : PySem.W.Frag} : PySem.W.kitOne K (.type "str") (.type "tuple") = some false := by kernel_rfl
end GP

namespace GP
open PySem L2 GwM
end GP

namespace L2
open PySem PySem.Spec PyProof.Rows PySem.Builtin PySem.Builtin.Str
/-! ### isinstance of a caught exception and a tuple of classes -/
theorem vals_refs : ∀ {cs : List Addr} {us : List Value}, Vals (cs.map V.ref) us → us = cs.map Value.ref
  | [], _, .nil => rfl
  | _ :: _, _, .cons r q => by
    cases r
    rw [vals_refs q]
    rfl
theorem call_isinstXT {X : Cx} : CallR X (.builtin "isinstance") (fun xs H Q => ∃ (ea C : Addr) (od : Option Addr) (tp : Addr) (cs : List Addr) (b : Bool), xs = [.ref ea, .ref tp] ∧ H tp = some (.tup (cs.map V.ref)) ∧ H ea = some (exO ea (.ref C) od) ∧ (od = none ∨ ∃ dx fs, od = some dx ∧ H dx = some (xdO dx fs)) ∧ XTy X.K C ∧ PySem.W.kitAny X.K (.ref C) (cs.map Value.ref) = some b ∧ Q (.bl b) H) := by
  intro pins s σ H vs us Q I r h
  obtain ⟨ea, C, od, tp, cs, b, rfl, htp, hx, hod, Z, hk, q⟩ := h
  obtain ⟨u, u2, rfl, rx, rc⟩ := vals2 r
  cases (show u = Value.ref ea from rx)
  cases (show u2 = Value.ref tp from rc)
  obtain ⟨its, rv, ⟨⟨cl, dd, da, sl⟩, e1, e2, n, e3⟩, _⟩ := I.tuple (SqT.of htp)
  simp only at e2 e3
  subst e2 e3
  have hi := vals_refs rv
  subst hi
  rcases hod with rfl | ⟨dx, fs, rfl, hd⟩
  · obtain ⟨⟨ws, sl, e⟩, _, _⟩ := (show ObjOk X.prog X.w H s.heap ea (exO ea (.ref C) none) from I.hok ea _ hx)
    exact TK.wpAny_up (Nat.le_refl s.toks) (PySem.W.kia_tup (kitx_exc (ox := ⟨.ref C, none, .fields ws, sl⟩) (od := none) Z) I.kIn ⟨e, rfl, rfl, trivial⟩ e1 hk (fun z => nomatch z) fun tk hup => ⟨.bl b, H, I.tok tk, rfl, q⟩)
  · obtain ⟨ox, o, mA, J, hl, rA⟩ := inst_exc I.hok hx hd
    exact TK.wpAny_up (Nat.le_refl s.toks) (PySem.W.kia_tup (kitx_exc (ox := ox) (od := some o) Z) I.kIn J e1 hk (fun z => nomatch z) fun tk hup => ⟨.bl b, H, I.tok tk, rfl, q⟩)
end L2

namespace GP
open PySem L2 GwM
theorem strApp (x y : Str) : (x ++ y).cps.toList = x.cps.toList ++ y.cps.toList := by
  show (x.cps ++ y.cps).toList = _
  rw [Array.toList_append]
theorem strAppSize (x y : Str) : (x ++ y).cps.size = x.cps.size + y.cps.size := by
  rw [← Array.length_toList, strApp, List.length_append, Array.length_toList, Array.length_toList]
end GP

namespace GP
open PySem L2 GwM
theorem kit_nil {K : PySem.W.Frag} {t : Value} : PySem.W.kitAny K t [] = some false := rfl
theorem kit_cons {K : PySem.W.Frag} {t c : Value} {r : List Value} {b : Bool} (h : PySem.W.kitOne K t c = some false) (h' : PySem.W.kitAny K t r = some b) : PySem.W.kitAny K t (c :: r) = some b := by
  unfold PySem.W.kitAny
  rw [h]
  exact h'
end GP

namespace GP
open PySem L2 GwM
end GP

namespace L2
open PySem PySem.Spec PyProof.Rows
section
variable {X : Cx} {tg : Expr}
end
end L2

namespace GP
open PySem L2 GwM
end GP

namespace L2
open PySem PySem.Spec PyProof.Rows
/-! ### the head that sees the tokens -/
def tokAll (K : PySem.W.Frag) (t : Nat) : Bool := match K.lookup mainGlobals with
  | some ⟨_, _, .dict es _, _⟩ => es.all fun e => match e.val with | .str _ u => Nat.blt u t && !(Nat.beq u 0) | _ => true
  | _ => false
theorem findBy_mem {f : Str → Value → Bool} {es : Array DictEntry} {n : Str} {v : Value} (h : PySem.findBy f es n = some v) : ∃ e ∈ es, e.val = v := by
  unfold PySem.findBy at h
  obtain ⟨e, he, rfl⟩ := Option.map_eq_some_iff.mp h
  exact ⟨e, Array.mem_of_find?_eq_some he, rfl⟩
theorem tokB_of {K : PySem.W.Frag} {h : Heap} {mg : Str → Option Value} {t : Nat} (KX : K.In h) (hns : h.Ns mainGlobals mg) (c : tokAll K t = true) : TokB mg t := by
  obtain ⟨o, es, ep, e, d, _, hm⟩ := hns
  unfold tokAll at c
  split at c
  · rename_i cl dd es' ep' sl hl
    have e' := KX _ _ hl
    rw [e] at e'
    cases e'
    cases d
    intro x v u hx
    obtain ⟨en, hen, ev⟩ := findBy_mem ((hm x).trans hx)
    have z := Array.all_eq_true'.mp c en hen
    rw [ev] at z
    simp only [Bool.and_eq_true, Nat.blt_eq, Bool.not_eq_true'] at z
    exact ⟨z.1, fun q => by rw [q] at z; exact absurd z.2 (by decide)⟩
  · cases c
theorem walk_ofZ {l : PySem.W.OpenLaw} {n k N t : Nat} {q : Program} {loose : List Str} {XP : (Str → Option Value) → Heap → Prop} {as : List Addr} {d : DefRec} {K : Params → PySem.W.Frag} {CX : World → CXT} {sp : World → Sp} {x : Str}
    (hn : l.most = some n) (hn2 : n ≤ sizeLine) (hdf : d.params.defaults = []) (hr : Room k callerA)
    (hk : ∀ P, as = (K P).map (·.1)) (ht : ∀ P, tokAll (K P) t = true)
    (F : ∀ (w : World) (mg : Str → Option Value) (fa : Addr) (h : Heap), (K w.params).In h → h.Ns mainGlobals mg → mg d.name = some (.ref fa) →
      ∃ fd : FuncData, (∀ (s : Shared) (u : Value), BindsTo s fd ⟨[u], []⟩ [(x, u)]) ∧
        ∀ base : Heap, (K w.params).In base → base.Ns mainGlobals mg → FnOk l.prog w (K w.params) mg base (CX w) k fa fd [x] (sp w))
    (hsp : ∀ (w : World) (H : Hp) (a : Addr) (ns : List Int), ns.length ≤ n → Only H → SqL (K w.params) H a (ns.map V.int) → sp w [.ref a] H (fun v _ => v = .bl true) fun _ _ _ => False)
    (hCX : ∀ (w : World) (H : Hp) (s : Shared) (e : Value) (s' : Shared), CX w [] H s (fun _ _ _ => False) e s' → False) :
    PySem.W.WalkX q loose XP (PySem.W.X.obsZ as) (PySem.W.X.valZ K N t) l.row.toRowW d [] (fun f vs => PySem.call f vs) := by
  intro w s₀ s₁ mg mb G y fa o pm cd doc dV kV ho hd hcd hD hmg hg args vals as' L hpre hlay hrd hwl hlo
  have Z := PySem.W.X.z_facts hk y
  have tk : t ≤ s₁.toks := by
    obtain ⟨ord, _, e⟩ := L.laid
    have g := (PySem.W.layAllW_grows _ _ _ e).toks
    rw [Z.2.2.2] at g
    exact g
  have KX : (K w.params).In s₁.heap := PySem.W.InK.keeps w s₀.heap s₁.heap Z.2.1 L.keeps
  obtain rfl : dV = .none := PySem.W.Dflts.none hD hdf
  obtain rfl : kV = .none := PySem.W.Dflts.noKw hD
  obtain ⟨a, vs, ns, rfl, rfl, hobj, hints, hlen⟩ := Att.script_of hn hpre hwl
  obtain ⟨fd, hb, hF⟩ := F w mg fa _ KX G.T.g hmg
  refine PySem.W.enter_call (codeAny_mono (law_call KX G.T.g G.T.b G.T.builtins G.T.nolimit hg ((tokB_of KX G.T.g (ht _)).mono tk) hobj hints (Nat.le_trans hlen hn2) hr hF hb (fun H hO hS => hsp w H a ns hlen hO hS) fun H e s' => hCX w H s₁ e s') fun r s' hq => ?_)
  obtain ⟨rfl, h2, h3, h4⟩ := hq
  exact ⟨.inl ⟨.bool true, .bool true, [], rfl, fun _ => rfl, .bool true, Att.post_true l _, fun _ => ⟨List.Pairwise.nil, fun _ hm => (nomatch hm)⟩⟩, h2, h3, h4⟩
end L2

namespace L2
open PySem PySem.Spec PyProof.Rows
/-! ### o.replace(GAP, ""): the name's token is older than the empty text's -/
def strike (c : Nat) (z : Str) : Str := ⟨(z.cps.toList.filter (· != c)).toArray⟩
theorem replace_is (z : Str) (c : Nat) : Txt.replace z ⟨#[c]⟩ ⟨#[]⟩ = strike c z := by
  have h := replace_strikes z c
  unfold strike
  rw [← h]
def tStrike (c : Nat) (to : TE) : TE := fun σ H Q => to σ H fun x H1 => ∃ z : Str, x = .str z ∧ z.cps.size ≤ 1000000 ∧ Q (.str (strike c z)) H1
section
variable {X : Cx} {o : Expr} {to : TE} {g : Str} {c j : Nat} {u : Tok} {apos cpos p1 p2 : Pos}
theorem pe_strike (ho : PE X o to) (hg : Gl X g) (hmg : X.mg g = some (.str ⟨#[c]⟩ u))
    (hbase : attributeBase o "replace" X.env (eval o X.env) = eval o X.env := by rfl)
    (hfew : ((backTo cpos (starEach [.Name g p1, .Constant (.str "") j p2] X.env)).all (fun x => !x.1) && (backToKw cpos (keywordEach [] X.env)).all (fun x => x.1.isSome)
      && decide (([.Name g p1, .Constant (.str "") j p2] : List Expr).length + ([] : List Keyword).length + (if ([] : List Keyword).isEmpty then 0 else 1) < 30)) = true := by rfl)
    (hline : (apos.endLine == cpos.line) = true := by rfl) (hs : starEach [.Name g p1, .Constant (.str "") j p2] X.env = [(false, eval (.Name g p1) X.env), (false, eval (.Constant (.str "") j p2) X.env)] := by rfl)
    (hd : (g == ("__debug__" : Str)) = false := by decide) :
    PE X (.Call (.Attribute o "replace" apos) [.Name g p1, .Constant (.str "") j p2] [] cpos) (tStrike c to) := by
  intro pins s σ H Q I h
  refine wpAny_Call_method_late hbase hfew hline rfl (thn (ho pins s σ H _ I h) fun v s1 ⟨x, H1, I1, r1, q1⟩ => ?_)
  obtain ⟨z, rfl, hz, q⟩ := q1
  obtain ⟨h1, h2⟩ := tyV_is (T := "str") I1 r1 rfl
  obtain ⟨t, rfl⟩ := r1
  refine ⟨"str", _, F.plainAttrs_str, F.slot_str_replace, F.type_str_replace, h1, h2, ?_⟩
  rw [hs]
  refine Calls.callWith_builtin rfl (Calls.evalArgs_plain ?_)
  refine Calls.spliced_cons (ld_glob I1 hg hmg ?_ hd)
  show wpAny _ _ (spliced [(false, eval (.Constant (.str "") j p2) X.env)]) _ _ s1
  refine Calls.spliced_cons (Calls.Constant_str (Calls.spliced_nil ?_))
  obtain ⟨k1, k2⟩ := I1.tk g _ _ hmg
  have I2 : Inv X pins σ H1 { s1 with toks := s1.toks + 1 } := I1.tok _
  refine TK.wpAny_up (Nat.le_refl (s1.toks + 1)) (SC.replace (s := { s1 with toks := s1.toks + 1 }) k2 (Nat.ne_of_gt (Nat.lt_of_le_of_lt (Nat.zero_le u) k1)) (Nat.ne_of_lt k1) ?_ ?_ fun t' k hk => ?_)
  · show (((⟨#[c]⟩ : Str)) == ((⟨#[]⟩ : Str))) = false
    exact beq_eq_false_iff_ne.mpr fun e => by cases e
  · show z.cps.size + (z.cps.size + 1) * 0 ≤ 16777216
    omega
  · refine ⟨.str (strike c z), H1, I2.tok k hk, ⟨t', ?_⟩, q⟩
    rw [← replace_is]; rfl
end
end L2
namespace L2
open PySem PySem.Spec PyProof.Rows
/-! ### "".join of signs -/
abbrev sg (c : Nat) : V := .str ⟨#[c]⟩
theorem vals_signs : ∀ {cs : List Nat} {us : List Value}, Vals (cs.map sg) us → ∃ l : List (Str × Tok), us = strValues l ∧ l.map (·.1) = cs.map fun c => (⟨#[c]⟩ : Str)
  | [], _, .nil => ⟨[], rfl, rfl⟩
  | c :: cs, _, .cons r rs => by
    obtain ⟨t, e⟩ := r
    obtain ⟨l, e1, e2⟩ := vals_signs rs
    exact ⟨(⟨#[c]⟩, t) :: l, by rw [e, e1]; rfl, by rw [List.map_cons, e2]; rfl⟩
theorem fold_ones : ∀ (l : List Nat) (n : Nat), (l.map fun c => (⟨#[c]⟩ : Str)).foldl (fun a (x : Str) => a + x.length + (⟨#[]⟩ : Str).length) n = n + l.length
  | [], _ => rfl
  | c :: l, n => by
    rw [List.map_cons, List.foldl_cons, fold_ones l]
    show n + 1 + 0 + l.length = n + (l.length + 1)
    omega
theorem mt_joinK {X : Cx} {K' : PySem.W.Frag} (hK : X.K = K') : MtR X "str.join" (fun x xs H Q => ∃ (l : Addr) (cs : List Nat), x = .str ⟨#[]⟩ ∧ xs = [.ref l] ∧ SqL K' H l (cs.map sg) ∧ cs.length ≤ 100000 ∧ Q (.str ⟨cs.toArray⟩) H) := by
  subst hK
  intro pins s σ H x xs v us Q I rx rs h
  obtain ⟨l, cs, rfl, rfl, hl, hn, q⟩ := h
  obtain ⟨t, rfl⟩ := rx
  cases rs with
  | cons r rr =>
    cases rr
    cases r
    obtain ⟨its, r1, t1, _⟩ := I.list hl
    obtain ⟨ls, e1, e2⟩ := vals_signs r1
    refine TK.wpAny_up (Nat.le_refl s.toks) (SC.join (l := ls) (by rw [← e1]; exact t1.isList) e2 ?_ fun t' k hk => ⟨.str ⟨cs.toArray⟩, H, I.tok k hk, ⟨t', ?_⟩, q⟩)
    · unfold JoinOk
      rw [List.foldl_toArray, fold_ones]
      unfold Builtin.Str.tooLong
      rw [Bool.not_eq_true', decide_eq_false_iff_not, Nat.zero_add]
      exact Nat.not_lt.mpr (Nat.le_trans hn (by decide))
    · have e : Txt.join ⟨#[]⟩ (cs.map fun c => (⟨#[c]⟩ : Str)) = ⟨cs.toArray⟩ := by
        show Builtin.Str.glued _ _ = _
        rw [StrLaws.glued_eq_join, join_ones]
      rw [e]
theorem mt_join {X : Cx} : MtR X "str.join" (fun x xs H Q => ∃ (l : Addr) (cs : List Nat), x = .str ⟨#[]⟩ ∧ xs = [.ref l] ∧ SqL X.K H l (cs.map sg) ∧ cs.length ≤ 100000 ∧ Q (.str ⟨cs.toArray⟩) H) := mt_joinK rfl
end L2

namespace L2
open PySem PySem.Spec PyProof.Rows
/-! ### a promise with both ends, where the call never raises -/
def nv (sp : Sp) : Sp := fun vs H Q _ => sp vs H Q fun _ _ _ => False
theorem FnOk.nv {P : Program} {w : World} {K : PySem.W.Frag} {mg : Str → Option Value} {base : Heap} {k : Nat} {f : Addr} {fd : FuncData} {ps : List Str} {sp : Sp} (F : FnOk P w K mg base (CXs P w) k f fd ps sp) : FnOk P w K mg base CX0 k f fd ps (nv sp) :=
  ⟨fun vs H Q E q => F.len vs H Q _ q, fun A outer s H args us vs Q E hr he hb hv hs => codeAny_mono (F.run A outer s H args us vs Q _ hr he hb hv hs) fun r s' h => by
    cases r with
    | error e => obtain ⟨ea, cls, od, H', h⟩ := h; exact (h.2.2.2.2.2.2.2 : False).elim
    | ok fl => cases fl <;> exact h⟩
/-! ### comprehensions that leave all else as it was -/
theorem cm_map {J : It} {g : TG} {te : TE} {σ' : St} {H1 : Hp} {D : Hp → Prop} {l : Addr} (n : Nat) (f : Nat → V) (hl : H1 l = none) (hn : n < sizeLine)
    (go : ∀ i H, Same H1 H → i < n → J.go i H) (st : ∀ H, Same H1 H → J.stop n H)
    (el : ∀ i x H H3 (R : VK), Same H1 H → i < n → J.yld i H x H3 → (∀ H5, Same H H5 → R (f i) H5) → g x σ' H3 fun σ4 H4 => Kp σ' σ4 ∧ te σ4 H4 R)
    (fin : ∀ H', Same H1 H' → H' l = some (.lst ((List.range n).map f)) → D H') :
    ∃ W : Nat → Nat → List V → Hp → Prop, (∃ m, W 0 m [] (upd H1 l (.lst []))) ∧ ∀ i m ys H2, W i m ys H2 → (J.stop i H2 ∧ D H2) ∨
      (J.go i H2 ∧ ∀ x H3, J.yld i H2 x H3 → g x σ' H3 fun σ4 H4 => Kp σ' σ4 ∧ te σ4 H4 fun y H5 => H5 l = some (.lst ys) ∧ ys.length < sizeLine ∧ ∃ m', m' < m ∧ W (i + 1) m' (ys ++ [y]) (upd H5 l (.lst (ys ++ [y])))) := by
  refine ⟨fun i m ys H2 => m = n - i ∧ i ≤ n ∧ ys = (List.range i).map f ∧ Same H1 H2 ∧ H2 l = some (.lst ys), ⟨n, rfl, Nat.zero_le _, rfl, GP.Same.upd hl, upd_same⟩, ?_⟩
  rintro i m ys H2 ⟨rfl, hi, rfl, s2, h2⟩
  by_cases hlt : i < n
  · refine .inr ⟨go i H2 s2 hlt, fun x H3 y => el i x H2 H3 _ s2 hlt y fun H5 s5 => ?_⟩
    refine ⟨s5 _ _ h2, by rw [List.length_map, List.length_range]; omega, n - (i + 1), by omega, rfl, hlt, ?_, GP.Same.at (s2.trans s5) hl, upd_same⟩
    rw [List.range_succ, List.map_append]; rfl
  · have e : i = n := by omega
    subst e
    exact .inl ⟨st H2 s2, fin H2 s2 h2⟩
end L2
namespace GP
open PySem L2 GwM
/-! ### rows of things -/
def Rw (K : PySem.W.Frag) (H : Hp) (v : V) (rs : List Str) : Prop := ∃ a, v = .ref a ∧ (SqL K H a (rs.map V.str) ∨ SqT K H a (rs.map V.str))
theorem Rw.same {K : PySem.W.Frag} {H H' : Hp} {v : V} {rs : List Str} (h : Rw K H v rs) (e : Same H H') : Rw K H' v rs := by
  obtain ⟨a, h1, h2⟩ := h
  exact ⟨a, h1, h2.imp (Same.seq e) (Same.tup e)⟩
theorem Rw.cp {K : PySem.W.Frag} {H : Hp} {v : V} {rs : List Str} (h : Rw K H v rs) : ∃ c : Cp, v = c.val ∧ ∀ H', Same H H' → c.at K H' (rs.map V.str) := by
  obtain ⟨a, rfl, h | h⟩ := h
  · exact ⟨.lst a, rfl, fun H' e => Same.seq e h⟩
  · exact ⟨.tup a, rfl, fun H' e => Same.tup e h⟩
theorem Rw.len {K : PySem.W.Frag} {H : Hp} {v : V} {rs : List Str} (h : Rw K H v rs) : LenV K v H rs.length := by
  obtain ⟨a, rfl, h | h⟩ := h
  · exact .inl ⟨_, h, by rw [List.length_map]⟩
  · exact .inr ⟨_, h, by rw [List.length_map]⟩
theorem Rw.ix {K : PySem.W.Frag} {H : Hp} {v : V} {rs : List Str} {i : Nat} {r : Str} {Q : VK} (h : Rw K H v rs) (e : rs[i]? = some r) (q : Q (.str r) H) : rIx K v (.int (i : Int)) H Q := by
  obtain ⟨a, rfl, h | h⟩ := h
  · exact .inl ⟨a, _, _, _, rfl, rfl, h, atI_nat (by rw [List.getElem?_map, e]; rfl), q⟩
  · exact .inr (.inl ⟨a, _, _, _, rfl, rfl, h, atI_nat (by rw [List.getElem?_map, e]; rfl), q⟩)
structure SmR (rs : List Str) : Prop where
  len : rs.length ≤ 100
  row : ∀ r ∈ rs, r.cps.size ≤ 1000
def colL (rs : List Str) (n : Nat) : List Nat := rs.map fun r => r.cps.toList.getD n 0
def colS (rs : List Str) (n : Nat) : Str := ⟨(colL rs n).toArray⟩
def cols (rs : List Str) (n : Nat) : List Str := (List.range n).map (colS rs)
def gapsB (x : Str) : Bool := x.cps.toList.all (· == 45)
def thingsB (x : Str) : Bool := (strike 45 x).cps.toList.all isSignN
def lenB : List Str → Bool
  | [] => false
  | r :: rs => (r :: rs).all fun x => x.cps.size == r.cps.size
def wid (rs : List Str) : Nat := (rs.headD ⟨#[]⟩).cps.size
def colsB (rs : List Str) : Bool := (cols rs (wid rs)).all fun c => !gapsB c
def blockB (rs : List Str) : Bool := lenB rs && (rs.all thingsB && colsB rs)
theorem lenB_iff {rs : List Str} : lenB rs = true ↔ rs ≠ [] ∧ ∀ r ∈ rs, r.cps.size = wid rs := by
  cases rs with
  | nil => exact ⟨fun h => (by cases h), fun h => absurd rfl h.1⟩
  | cons r rs =>
    show ((r :: rs).all fun x => x.cps.size == r.cps.size) = true ↔ _
    rw [List.all_eq_true]
    exact ⟨fun h => ⟨by simp, fun x hx => eq_of_beq (h x hx)⟩, fun h x hx => beq_iff_eq.mpr (h.2 x hx)⟩
theorem gaps_eq {x : Str} : decide (V.str x = V.str (repS (Str.ofString "-") (x.length : Nat))) = gapsB x := by
  have e : (repS (Str.ofString "-") (x.length : Nat)).cps.toList = List.replicate x.cps.toList.length 45 := by
    rw [repS_list]
    show (List.replicate x.cps.size [45]).flatten = _
    rw [Array.length_toList]
    generalize x.cps.size = n
    induction n with
    | zero => rfl
    | succ n ih => rw [List.replicate_succ, List.flatten_cons, ih, List.replicate_succ]; rfl
  rw [Bool.eq_iff_iff, decide_eq_true_iff]
  unfold gapsB
  rw [List.all_eq_true]
  refine ⟨fun h c hc => ?_, fun h => ?_⟩
  · injection h with h
    rw [h, e] at hc
    exact beq_iff_eq.mpr (List.eq_of_mem_replicate hc)
  · have z : x.cps.toList = List.replicate x.cps.toList.length 45 := List.eq_replicate_of_mem fun c hc => eq_of_beq (h c hc)
    rw [← e] at z
    have : x.cps = (repS (Str.ofString "-") (x.length : Nat)).cps := Array.toList_inj.mp z
    have e2 : x = repS (Str.ofString "-") (x.length : Nat) := by
      rcases h3 : repS (Str.ofString "-") (x.length : Nat) with ⟨cs⟩
      rw [h3] at this
      rcases x with ⟨xs⟩
      exact congrArg Str.mk this
    rw [← e2]
/-! ### promises -/
def spThingsAt (K : PySem.W.Frag) : Sp := fun vs H Q _ => ∃ (v : V) (rs : List Str) (n : Nat), vs = [v, .int n] ∧ Rw K H v rs ∧ SmR rs ∧ (∀ r ∈ rs, n < r.cps.size) ∧ ∀ H', Same H H' → Q (.str (colS rs n)) H'
def spTurned (K : PySem.W.Frag) : Sp := fun vs H Q _ => ∃ (v : V) (rs : List Str) (n : Nat), vs = [v, .int n] ∧ Rw K H v rs ∧ SmR rs ∧ n ≤ 1000 ∧ (∀ r ∈ rs, n ≤ r.cps.size) ∧
  ∀ l H', Same H H' → H l = none → H' l = some (.lst ((cols rs n).map V.str)) → Q (.ref l) H'
def spColumns (K : PySem.W.Frag) : Sp := fun vs H Q _ => ∃ (v : V) (rs : List Str), vs = [v] ∧ Rw K H v rs ∧ SmR rs ∧ lenB rs = true ∧
  ∀ l H', Same H H' → H l = none → H' l = some (.lst ((cols rs (wid rs)).map V.str)) → Q (.ref l) H'
def spIsGaps : Sp := fun vs H Q _ => ∃ x : Str, vs = [.str x] ∧ x.cps.size ≤ 1000 ∧ Q (.bl (gapsB x)) H
def spSignsOf : Sp := fun vs H Q _ => ∃ x : Str, vs = [.str x] ∧ x.cps.size ≤ 1000 ∧ Q (.str (strike 45 x)) H
def spAreThings : Sp := fun vs H Q _ => ∃ x : Str, vs = [.str x] ∧ x.cps.size ≤ 1000 ∧ ∀ H', Same H H' → Q (.bl (thingsB x)) H'
def spChk (K : PySem.W.Frag) (C : Addr) (pre p : List Str → Bool) : Sp := fun vs H Q E => ∃ (v : V) (rs : List Str), vs = [v] ∧ Rw K H v rs ∧ SmR rs ∧ pre rs = true ∧
  (p rs = true → ∀ H', Same H H' → Q .non H') ∧ (p rs = false → ∀ H', Same H H' → E (.ref C) none H')
def Blk (K : PySem.W.Frag) (C : Addr) (H : Hp) (b : Addr) (rs : List Str) : Prop := ∃ dx q, H b = some (.ins C dx (putF "rows" (.ref q) [])) ∧ SqT K H q (rs.map V.str)
theorem Blk.same {K : PySem.W.Frag} {C : Addr} {H H' : Hp} {b : Addr} {rs : List Str} (h : Blk K C H b rs) (e : Same H H') : Blk K C H' b rs := by
  obtain ⟨dx, q, h1, h2⟩ := h
  exact ⟨dx, q, e _ _ h1, Same.tup e h2⟩
def spBlock (K : PySem.W.Frag) (C X : Addr) : Sp := fun vs H Q E => ∃ (b dx : Addr) (v : V) (rs : List Str), vs = [.ref b, v] ∧ H b = some (.ins C dx []) ∧ Rw K H v rs ∧ SmR rs ∧
  (blockB rs = true → ∀ H', (∀ a u, H a = some u → a ≠ b → H' a = some u) → Blk K C H' b rs → Q .non H') ∧ (blockB rs = false → ∀ H', Same H H' → E (.ref X) none H')
end GP

namespace L2
open PySem PySem.Spec PyProof.Rows
end L2
namespace GP
open PySem L2 GwM
theorem SqT.offI {K : PySem.W.Frag} {H : Hp} {l a C dx : Addr} {fs : List (Str × V)} {xs : List V} {o : HO} (hl : H l = some (.ins C dx fs)) (h : SqT K H a xs) : SqT K (L2.upd H l o) a xs := by
  rcases h with (h | ⟨u, h⟩) | h
  · exact .inl (.inl (by rw [upd_ne (ne_of h hl (by intro z; cases z))]; exact h))
  · exact .inl (.inr ⟨u, by rw [upd_ne (ne_of h hl (by intro z; cases z))]; exact h⟩)
  · exact .inr h
theorem rows_at {q : V} : (putF "rows" q []).lookup ("rows" : Str) = some q := by
  rw [lookup_putF, if_pos rfl]
def inR (i : Int) (n : Nat) : Bool := decide (0 ≤ i) && decide (i < n)
def spRowB (K : PySem.W.Frag) (C X : Addr) : Sp := fun vs H Q E => ∃ (b : Addr) (i : Int) (rs : List Str), vs = [.ref b, .int i] ∧ Blk K C H b rs ∧ (inR i rs.length = true → Q .non H) ∧ (inR i rs.length = false → E (.ref X) none H)
def spBare (K : PySem.W.Frag) (C X : Addr) : Sp := fun vs H Q E => ∃ (b : Addr) (i : Int) (rs : List Str), vs = [.ref b, .int i] ∧ Blk K C H b rs ∧ SmR rs ∧ (∀ r, 0 ≤ i → rs[i.toNat]? = some r → Q (.str (strike 45 r)) H) ∧ (inR i rs.length = false → E (.ref X) none H)
theorem cols_at {rs : List Str} {n i : Nat} (h : i < n) : (cols rs n)[i]? = some (colS rs i) := by
  unfold cols
  rw [List.getElem?_map, List.getElem?_range h]
  rfl
theorem things_iff {x : Str} : thingsB x = true ↔ ∀ c ∈ x.cps.toList, c ≠ 45 → isSignN c = true := by
  unfold thingsB strike
  rw [List.all_eq_true]
  refine ⟨fun h c hc n => h c ?_, fun h c hc => ?_⟩
  · show c ∈ x.cps.toList.filter (· != 45)
    exact List.mem_filter.mpr ⟨hc, by simpa using n⟩
  · have hc' : c ∈ x.cps.toList.filter (· != 45) := hc
    obtain ⟨a, b⟩ := List.mem_filter.mp hc'
    exact h c a (by simpa using b)
end GP

namespace GP
open PySem L2 GwM
/-! ### what the law draws -/
def okT (c : Nat) : Prop := c = 45 ∨ isSignN c = true
structure RsOk (rs : List Str) (n i : Nat) : Prop where
  len : rs.length = n
  wid : ∀ r ∈ rs, r.cps.size = i
  ok : ∀ r ∈ rs, ∀ c ∈ r.cps.toList, okT c
  col : ∀ j, j < i → ∃ r ∈ rs, ∃ c, r.cps.toList[j]? = some c ∧ c ≠ 45
theorem RsOk.w {rs : List Str} {n i : Nat} (h : RsOk rs n i) (hn : 0 < n) : GP.wid rs = i := by
  cases hr : rs with
  | nil => have := h.len; rw [hr] at this; have : 0 = n := this; omega
  | cons r t => exact h.wid r (by rw [hr]; exact List.mem_cons_self ..)
theorem RsOk.lenB {rs : List Str} {n i : Nat} (h : RsOk rs n i) (hn : 0 < n) : GP.lenB rs = true := by
  refine lenB_iff.mpr ⟨fun z => ?_, fun r hr => (h.wid r hr).trans (h.w hn).symm⟩
  have := h.len
  rw [z] at this
  have : 0 = n := this
  omega
theorem RsOk.things {rs : List Str} {n i : Nat} (h : RsOk rs n i) : rs.all thingsB = true :=
  List.all_eq_true.mpr fun r hr => things_iff.mpr fun c hc hn => (h.ok r hr c hc).resolve_left hn
theorem gaps_col {rs : List Str} {j : Nat} : gapsB (colS rs j) = true ↔ ∀ r ∈ rs, r.cps.toList.getD j 0 = 45 := by
  unfold gapsB colS colL
  rw [List.all_eq_true]
  refine ⟨fun h r hr => eq_of_beq (h _ (List.mem_map.mpr ⟨r, hr, rfl⟩)), fun h c hc => ?_⟩
  obtain ⟨r, hr, rfl⟩ := List.mem_map.mp (show c ∈ rs.map fun r => r.cps.toList.getD j 0 from hc)
  exact beq_iff_eq.mpr (h r hr)
theorem RsOk.block {rs : List Str} {n i : Nat} (h : RsOk rs n i) (hn : 0 < n) : blockB rs = true := by
  unfold blockB
  rw [h.lenB hn, h.things, Bool.true_and, Bool.true_and]
  unfold colsB
  rw [h.w hn, List.all_eq_true]
  intro c hc
  unfold cols at hc
  obtain ⟨j, hj, rfl⟩ := List.mem_map.mp hc
  obtain ⟨r, hr, c, hc, hne⟩ := h.col j (List.mem_range.mp hj)
  rw [Bool.not_eq_true', Bool.eq_false_iff]
  intro z
  have := gaps_col.mp z r hr
  rw [List.getD_eq_getElem?_getD, hc] at this
  exact hne this
def grown (rs : List Str) (cs : List Nat) (n : Nat) : List Str := (List.range n).map fun r => rs.getD r ⟨#[]⟩ ++ ⟨#[cs.getD r 0]⟩
theorem getD_of {α : Type} {l : List α} {i : Nat} {d x : α} (h : l[i]? = some x) : l.getD i d = x := by
  rw [List.getD_eq_getElem?_getD, h]; rfl
theorem RsOk.next {rs : List Str} {n i : Nat} {cs : List Nat} (h : RsOk rs n i) (hl : cs.length = n) (ho : ∀ c ∈ cs, okT c) (hg : ∃ c ∈ cs, c ≠ 45) : RsOk (grown rs cs n) n (i + 1) := by
  have at_ : ∀ r, r < n → ∃ x c, rs[r]? = some x ∧ cs[r]? = some c ∧ x ∈ rs ∧ c ∈ cs ∧ rs.getD r ⟨#[]⟩ ++ ⟨#[cs.getD r 0]⟩ = x ++ (⟨#[c]⟩ : Str) := fun r hr => by
    have h1 : r < rs.length := by rw [h.len]; exact hr
    have h2 : r < cs.length := by rw [hl]; exact hr
    refine ⟨rs[r], cs[r], List.getElem?_eq_getElem h1, List.getElem?_eq_getElem h2, List.getElem_mem h1, List.getElem_mem h2, ?_⟩
    rw [getD_of (List.getElem?_eq_getElem h1), getD_of (List.getElem?_eq_getElem h2)]
  have mem : ∀ y ∈ grown rs cs n, ∃ x c, x ∈ rs ∧ c ∈ cs ∧ y = x ++ (⟨#[c]⟩ : Str) := fun y hy => by
    unfold grown at hy
    obtain ⟨r, hr, rfl⟩ := List.mem_map.mp hy
    obtain ⟨x, c, _, _, a, b, e⟩ := at_ r (List.mem_range.mp hr)
    exact ⟨x, c, a, b, e⟩
  have app : ∀ (x : Str) (c : Nat), (x ++ (⟨#[c]⟩ : Str)).cps.toList = x.cps.toList ++ [c] := fun x c => by
    rw [Str.cps_append, Array.toList_append]
  refine ⟨by unfold grown; rw [List.length_map, List.length_range], fun y hy => ?_, fun y hy d hd => ?_, fun j hj => ?_⟩
  · obtain ⟨x, c, a, b, rfl⟩ := mem y hy
    rw [← Array.length_toList, app, List.length_append, Array.length_toList, h.wid x a]
    rfl
  · obtain ⟨x, c, a, b, rfl⟩ := mem y hy
    rw [app] at hd
    rcases List.mem_append.mp hd with hd | hd
    · exact h.ok x a d hd
    · rw [List.mem_singleton.mp hd]; exact ho c b
  · by_cases z : j < i
    · obtain ⟨x, hx, c, hc, hne⟩ := h.col j z
      obtain ⟨r, hr, e⟩ := List.getElem_of_mem hx
      have hr' : r < n := by rw [← h.len]; exact hr
      obtain ⟨x', c', e1, _, _, _, e3⟩ := at_ r hr'
      rw [List.getElem?_eq_getElem hr, e] at e1
      cases e1
      refine ⟨_, List.mem_map.mpr ⟨r, List.mem_range.mpr hr', e3⟩, c, ?_, hne⟩
      rw [app, List.getElem?_append_left (by rw [Array.length_toList, h.wid x hx]; exact z), hc]
    · have ej : j = i := by omega
      subst ej
      obtain ⟨c, hc, hne⟩ := hg
      obtain ⟨r, hr, e⟩ := List.getElem_of_mem hc
      have hr' : r < n := by rw [← hl]; exact hr
      obtain ⟨x', c', e1, e2, hx', _, e3⟩ := at_ r hr'
      rw [List.getElem?_eq_getElem hr, e] at e2
      cases e2
      refine ⟨_, List.mem_map.mpr ⟨r, List.mem_range.mpr hr', e3⟩, c, ?_, hne⟩
      have hs : x'.cps.toList.length = j := by rw [Array.length_toList]; exact h.wid x' hx'
      rw [app, List.getElem?_append_right (by omega), hs, Nat.sub_self]
      rfl
end GP
namespace L2
open PySem PySem.Spec PyProof.Rows
theorem call_isinstI {X : Cx} : CallR X (.builtin "isinstance") (fun xs H Q => ∃ b C dx fs, xs = [.ref b, .ref C] ∧ H b = some (.ins C dx fs) ∧ PySem.W.isIn X.K (.ref C) C = true ∧ Q (.bl true) H) := by
  intro pins s σ H xs us Q I r h
  obtain ⟨b, C, dx, fs, rfl, hb, e, q⟩ := h
  obtain ⟨u, w', rfl, rx, rn⟩ := vals2 r
  cases (show u = Value.ref b from rx)
  cases (show w' = Value.ref C from rn)
  obtain ⟨mA, J, _⟩ := ins_get I.hok hb
  obtain ⟨od, J', _⟩ := J.look
  exact PySem.W.isi_call I.kIn (fun M => J'.type) e (fun z => nomatch z) ⟨.bl true, H, I, rfl, q⟩
end L2
namespace GP
open PySem L2 GwM
theorem sign_ne {c : Nat} (h : isSignN c = true) : c ≠ 45 := fun z => by rw [z] at h; exact absurd h (by decide)
end GP

namespace GP
open PySem L2 GwM
end GP
namespace GP
open PySem L2 GwM
end GP

namespace GP
open PySem L2 GwM
theorem bF_cols {rs : List Str} {j : Nat} (hj : j < wid rs) (h : ∀ r ∈ rs, r.cps.toList.getD j 0 = 45) : blockB rs = false := by
  have : colsB rs = false := by
    rw [Bool.eq_false_iff]
    intro z
    unfold colsB at z
    have := List.all_eq_true.mp z (colS rs j) (List.mem_of_getElem? (cols_at hj))
    rw [gaps_col.mpr h] at this
    cases this
  unfold blockB
  rw [this, Bool.and_false, Bool.and_false]
def wide (k : Nat) (r : Str) : Str := ⟨(r.cps.toList.take k ++ [45] ++ r.cps.toList.drop k).toArray⟩
theorem bF_wide {rs : List Str} {n w k : Nat} (h : RsOk rs n w) (hn : 0 < n) (hk : k ≤ w) : blockB (rs.map (wide k)) = false := by
  have hl := h.len
  have sz : ∀ r ∈ rs, (wide k r).cps.size = w + 1 := fun r hr => by
    show (r.cps.toList.take k ++ [45] ++ r.cps.toList.drop k).length = _
    rw [List.length_append, List.length_append, List.length_take, List.length_drop, Array.length_toList, h.wid r hr]
    simp only [List.length_singleton]
    omega
  refine bF_cols (j := k) ?_ fun y hy => ?_
  · cases hr : rs with
    | nil => rw [hr] at hl; have : 0 = n := hl; omega
    | cons r t =>
      show k < (wide k r).cps.size
      rw [sz r (by rw [hr]; exact List.mem_cons_self ..)]
      omega
  · obtain ⟨r, hr, rfl⟩ := List.mem_map.mp hy
    show (r.cps.toList.take k ++ [45] ++ r.cps.toList.drop k).getD k 0 = 45
    have hlen : (r.cps.toList.take k).length = k := by rw [List.length_take, Array.length_toList, h.wid r hr]; omega
    refine getD_of ?_
    rw [List.append_assoc, List.getElem?_append_right (by omega), hlen, Nat.sub_self]
    rfl
end GP

namespace GP
open PySem L2 GwM
end GP
namespace GP
open PySem L2 GwM
theorem range_getD (L : List Nat) : (List.range L.length).map (fun j => L.getD j 0) = L := by
  refine List.ext_getElem (by simp) fun i h1 h2 => ?_
  simp [List.getD_eq_getElem?_getD, List.getElem?_eq_getElem h2]
end GP
namespace L2
end L2

namespace GP
open PySem L2 GwM
end GP
namespace L2
open PySem PySem.Spec PyProof.Rows
end L2

namespace GP
open PySem L2 GwM
end GP
namespace GP
open PySem L2 GwM
theorem gapD (c : Nat) : decide (V.str ⟨#[c]⟩ = V.str (Str.ofString "-")) = decide (c = 45) := by
  rw [Bool.eq_iff_iff, decide_eq_true_iff, decide_eq_true_iff]
  refine ⟨fun h => ?_, fun h => by rw [h]; rfl⟩
  have h' : (⟨#[c]⟩ : Str) = ⟨#[45]⟩ := by injection h
  injection h' with h'
  simpa using h'
end GP

namespace GP
open PySem L2 GwM
end GP

namespace GP
open PySem L2 GwM
end GP

namespace GP
open PySem L2 GwM
end GP

namespace GP
open PySem L2 GwM
end GP

namespace GP
open PySem L2 GwM
/-! ### a thing put in at a place -/
theorem cut_set (l : List Nat) (c : Nat) : ∀ (k : Nat), k < l.length → l.take k ++ [c] ++ l.drop (k + 1) = l.set k c := by
  induction l with
  | nil => intro k h; cases h
  | cons a l ih =>
    intro k h
    cases k with
    | zero => rfl
    | succ k =>
      have := ih k (by simpa using h)
      show a :: (l.take k ++ [c] ++ l.drop (k + 1)) = a :: l.set k c
      rw [this]
section
variable {K : PySem.W.Frag} {CP CB : Addr} {H H' H'' : Hp} {t a x o : Addr} {k k2 : Int} {sg : Str} {rows : List (List Fra)} {fo fm : Fra} {rs0 rs rs2 : List Str}
end
end GP
namespace GP
open PySem L2 GwM
end GP

namespace GP
open PySem L2 GwM
/-! ### lines of a text -/
theorem cut_eq {c : Nat} : ∀ {a b r s : List Nat}, c ∉ a → c ∉ b → a ++ c :: r = b ++ c :: s → a = b ∧ r = s
  | [], [], r, s, _, _, h => ⟨rfl, by injection h⟩
  | [], b :: bs, r, s, _, hb, h => by
    injection h with h1 h2
    exact absurd (h1 ▸ List.mem_cons_self) hb
  | a :: as, [], r, s, ha, _, h => by
    injection h with h1 h2
    exact absurd (h1 ▸ List.mem_cons_self) ha
  | a :: as, b :: bs, r, s, ha, hb, h => by
    injection h with h1 h2
    obtain ⟨e1, e2⟩ := cut_eq (fun z => ha (List.mem_cons_of_mem _ z)) (fun z => hb (List.mem_cons_of_mem _ z)) h2
    exact ⟨by rw [h1, e1], e2⟩
def lnJ (c : Nat) : List (List Nat) → List Nat
  | [] => []
  | [a] => a
  | a :: b :: r => a ++ c :: lnJ c (b :: r)
theorem lnJ_join (c : Nat) : ∀ rs : List Str, (Str.join ⟨#[c]⟩ rs).cps.toList = lnJ c (rs.map fun r => r.cps.toList)
  | [] => rfl
  | [a] => rfl
  | a :: b :: r => by
    show (a ++ (⟨#[c]⟩ : Str) ++ Str.join ⟨#[c]⟩ (b :: r)).cps.toList = a.cps.toList ++ c :: lnJ c ((b :: r).map fun r => r.cps.toList)
    rw [strApp, strApp, lnJ_join c (b :: r), List.append_assoc]
    rfl
theorem lnJ_inj {c : Nat} : ∀ {p q : List (List Nat)}, p ≠ [] → q ≠ [] → (∀ a ∈ p, c ∉ a) → (∀ a ∈ q, c ∉ a) → lnJ c p = lnJ c q → p = q
  | [], _, h, _, _, _, _ => absurd rfl h
  | _, [], _, h, _, _, _ => absurd rfl h
  | [a], [b], _, _, _, _, h => by rw [show a = b from h]
  | [a], b :: d :: r, _, _, ha, _, h => by
    have h' : a = b ++ c :: lnJ c (d :: r) := h
    exact absurd (by rw [h']; simp) (ha a List.mem_cons_self)
  | a :: d :: r, [b], _, _, _, hb, h => by
    have h' : a ++ c :: lnJ c (d :: r) = b := h
    exact absurd (by rw [← h']; simp) (hb b List.mem_cons_self)
  | a :: d :: r, b :: e :: s, _, _, ha, hb, h => by
    obtain ⟨e1, e2⟩ := cut_eq (ha a List.mem_cons_self) (hb b List.mem_cons_self) (show a ++ c :: lnJ c (d :: r) = b ++ c :: lnJ c (e :: s) from h)
    rw [e1, lnJ_inj (by simp) (by simp) (fun x hx => ha x (List.mem_cons_of_mem _ hx)) (fun x hx => hb x (List.mem_cons_of_mem _ hx)) e2]
theorem split_ne (x : Str) (c : Nat) : Txt.split x ⟨#[c]⟩ ≠ [] := by
  unfold Txt.split
  split
  · simp
  · split
    · simp
    · intro z
      have := PyProof.Rows.len_partsBetween x (Builtin.Str.occurrences x ⟨#[c]⟩ 0 x.length (x.length + 1)) (⟨#[c]⟩ : Str).length
      rw [z] at this
      cases this
theorem split_lines {c : Nat} {rs : List Str} (hne : rs ≠ []) (hf : ∀ r ∈ rs, c ∉ r.cps.toList) : Txt.split (Str.join ⟨#[c]⟩ rs) ⟨#[c]⟩ = rs := by
  have h := StrLaws.join_split (Str.join ⟨#[c]⟩ rs) ⟨#[c]⟩
  have h2 : lnJ c ((Txt.split (Str.join ⟨#[c]⟩ rs) ⟨#[c]⟩).map fun r => r.cps.toList) = lnJ c (rs.map fun r => r.cps.toList) := by
    rw [← lnJ_join, ← lnJ_join, h]
  have h3 := lnJ_inj (c := c) (by simpa using split_ne _ c) (by simpa using hne) (fun a ha => by
    obtain ⟨r, hr, rfl⟩ := List.mem_map.mp ha
    exact StrLaws.split_free _ c r hr) (fun a ha => by
    obtain ⟨r, hr, rfl⟩ := List.mem_map.mp ha
    exact hf r hr) h2
  have inj : ∀ {p q : List Str}, (p.map fun r => r.cps.toList) = (q.map fun r => r.cps.toList) → p = q := fun {p q} e => by
    induction p generalizing q with
    | nil => cases q with
      | nil => rfl
      | cons b q => cases e
    | cons a p ih => cases q with
      | nil => cases e
      | cons b q =>
        injection e with e1 e2
        rw [ih e2, strExt (Array.toList_inj.mp e1)]
  exact inj h3
end GP
namespace L2
open PySem PySem.Spec PyProof.Rows
/-! ### join, split and count of lines -/
theorem vals_strs : ∀ {ys : List Str} {us : List Value}, Vals (ys.map V.str) us → StrsAre us ys
  | [], _, .nil => .nil
  | y :: ys, _, .cons r rs => by
    obtain ⟨t, e⟩ := r
    rw [e]
    exact .cons y t (vals_strs rs)
theorem strs_vals : ∀ l : List (Str × Tok), Vals ((l.map (·.1)).map V.str) (strValues l)
  | [] => .nil
  | (y, t) :: l => .cons ⟨t, rfl⟩ (strs_vals l)
theorem mt_joinS {X : Cx} {K' : PySem.W.Frag} (hK : X.K = K') : MtR X "str.join" (fun x xs H Q => ∃ (y : Str) (a : Addr) (ys : List Str), x = .str y ∧ xs = [.ref a] ∧ (SqL K' H a (ys.map V.str) ∨ SqT K' H a (ys.map V.str)) ∧ y.length ≤ 1 ∧ (∀ z ∈ ys, z.length ≤ 2000) ∧ ys.length ≤ 2000 ∧ Q (.str (Str.join y ys)) H) := by
  subst hK
  intro pins s σ H x xs v us Q I rx rs h
  obtain ⟨y, a, ys, rfl, rfl, hl, hy, hz, hn, q⟩ := h
  obtain ⟨t, rfl⟩ := rx
  have hj : Txt.join y ys = Str.join y ys := StrLaws.glued_eq_join y ys
  have hok : (ys.map (·.length)).sum + ys.length * y.length ≤ 16777216 := by
    have h1 := StrLaws.sumLen_le ys hz
    have h2 : ys.length * 2000 ≤ 2000 * 2000 := Nat.mul_le_mul_right _ hn
    have h3 : ys.length * y.length ≤ 2000 * 1 := Nat.mul_le_mul hn hy
    omega
  cases rs with
  | cons r rr =>
    cases rr
    cases r
    rcases hl with hl | hl
    · obtain ⟨its, r1, t1, _⟩ := I.list hl
      exact TK.wpAny_up (Nat.le_refl s.toks) (join_list (items := its.toArray) t1.isList (vals_strs r1) hok fun t' k hk => ⟨.str (Str.join y ys), H, I.tok k hk, ⟨t', by rw [hj]⟩, q⟩)
    · obtain ⟨its, r1, t1, _⟩ := I.tuple hl
      exact TK.wpAny_up (Nat.le_refl s.toks) (join_tuple (items := its.toArray) t1 (vals_strs r1) hok fun t' k hk => ⟨.str (Str.join y ys), H, I.tok k hk, ⟨t', by rw [hj]⟩, q⟩)
theorem mt_splitL {X : Cx} : MtR X "str.split" (fun x xs H Q => ∃ (z : Str) (c : Nat), x = .str z ∧ xs = [.str ⟨#[c]⟩] ∧ z.length ≤ 200000 ∧ ∀ l, H l = none → Q (.ref l) (upd H l (.lst ((Txt.split z ⟨#[c]⟩).map V.str)))) := by
  intro pins s σ H x xs v us Q I rx rv h
  obtain ⟨z, c, rfl, rfl, hz, q⟩ := h
  obtain ⟨t, rfl⟩ := rx
  obtain ⟨u, rfl, ⟨t', rfl⟩⟩ := rv.one
  have hzz : z.length ≤ sizeLine := Nat.le_trans hz (by decide)
  have hlen : (Builtin.Str.occurrences z ⟨#[c]⟩ 0 z.length (z.length + 1)).length ≤ z.length + 1 := StrLaws.occ_length_le _ _ _ _ _
  have hpb := len_partsBetween z (Builtin.Str.occurrences z ⟨#[c]⟩ 0 z.length (z.length + 1)) (⟨#[c]⟩ : Str).length
  have hn : (Builtin.Str.partsBetween z (Builtin.Str.occurrences z ⟨#[c]⟩ 0 z.length (z.length + 1)) (⟨#[c]⟩ : Str).length).length ≤ sizeLine := by
    rw [hpb]
    exact Nat.le_trans (show _ ≤ 200002 by omega) (by decide)
  have one : Txt.split z ⟨#[c]⟩ = [z] → EP X pins σ Q (.ref s.heap.objs.size) { s with heap := s.heap.push { cls := .type "list", data := .seq ([.str z t] : List Value).toArray } } := fun e => by
    have qq := q s.heap.objs.size I.fresh
    rw [e] at qq
    exact ⟨.ref _, _, I.lnew (t' := s.toks) (ys := [V.str z]) (.cons ⟨t, rfl⟩ .nil) (by show 1 ≤ sizeLine; decide), rfl, qq⟩
  cases h1 : (decide (z.length < (⟨#[c]⟩ : Str).length) || decide (Builtin.Str.strKind z < Builtin.Str.strKind ⟨#[c]⟩)) with
  | true =>
    refine call_meets F.slot_str_split (typeIs_str _ _ _) F.entry_str_split (F.args_str_split_2 _ _) (meets_str_split_cannot_occur z ⟨#[c]⟩ t t' h1) ?_
    exact one (if_pos h1)
  | false =>
    cases hf : (Builtin.Str.occurrences z ⟨#[c]⟩ 0 z.length (z.length + 1)).isEmpty with
    | true =>
      refine call_meets F.slot_str_split (typeIs_str _ _ _) F.entry_str_split (F.args_str_split_2 _ _) (meets_str_split_not_found z ⟨#[c]⟩ t t' h1 rfl hf) ?_
      exact one ((if_neg (by rw [h1]; exact Bool.false_ne_true)).trans (if_pos hf))
    | false =>
      refine call_meets F.slot_str_split (typeIs_str _ _ _) F.entry_str_split (F.args_str_split_2 _ _) (meets_str_split_sep z ⟨#[c]⟩ t t' h1 rfl hf hzz hn) ?_
      have e : Txt.split z ⟨#[c]⟩ = Builtin.Str.partsBetween z (Builtin.Str.occurrences z ⟨#[c]⟩ 0 z.length (z.length + 1)) (⟨#[c]⟩ : Str).length := (if_neg (by rw [h1]; exact Bool.false_ne_true)).trans (if_neg (by rw [hf]; exact Bool.false_ne_true))
      have qq := q s.heap.objs.size I.fresh
      rw [e] at qq
      generalize Builtin.Str.partsBetween z (Builtin.Str.occurrences z ⟨#[c]⟩ 0 z.length (z.length + 1)) (⟨#[c]⟩ : Str).length = ps at hn qq ⊢
      have hv : Vals (ps.map V.str) (strsFrom s.toks ps) := by
        have := strs_vals (numbered s.toks ps)
        rw [numbered_texts, ← strsFrom_eq] at this
        exact this
      exact ⟨.ref _, _, I.lnew (t' := s.toks + ps.length) hv (by rw [List.length_map]; exact hn) (Nat.le_add_right _ _), rfl, qq⟩
theorem mt_countL {X : Cx} : MtR X "str.count" (fun x xs H Q => ∃ (z : Str) (c : Nat), x = .str z ∧ xs = [.str ⟨#[c]⟩] ∧ Q (.int (Txt.count z ⟨#[c]⟩)) H) := by
  intro pins s σ H x xs v us Q I rx rv h
  obtain ⟨z, c, rfl, rfl, q⟩ := h
  obtain ⟨t, rfl⟩ := rx
  obtain ⟨u, rfl, ⟨t', rfl⟩⟩ := rv.one
  exact SC.count ⟨.int (Txt.count z ⟨#[c]⟩), H, I.tok _, ⟨_, rfl⟩, q⟩
end L2
namespace GP
open PySem L2 GwM
theorem count_lines {c : Nat} {rs : List Str} (hne : rs ≠ []) (hf : ∀ r ∈ rs, c ∉ r.cps.toList) : Txt.count (Str.join ⟨#[c]⟩ rs) ⟨#[c]⟩ = ((rs.length - 1 : Nat) : Int) := by
  have h := split_lines hne hf
  have hj : Str.join ⟨#[c]⟩ (Txt.split (Str.join ⟨#[c]⟩ rs) ⟨#[c]⟩) = Str.join ⟨#[c]⟩ rs := StrLaws.join_split _ _
  generalize hz : Str.join ⟨#[c]⟩ rs = z at h
  have hl : rs.length = (Txt.split z ⟨#[c]⟩).length := by rw [h]
  have hpb := PyProof.Rows.len_partsBetween z (Builtin.Str.occurrences z ⟨#[c]⟩ 0 z.length (z.length + 1)) (⟨#[c]⟩ : Str).length
  have one : rs.length = 1 → Builtin.Str.occurrences z ⟨#[c]⟩ 0 z.length (z.length + 1) = [] := fun h1 => by
    obtain ⟨r, rfl⟩ : ∃ r, rs = [r] := by
      match rs, h1 with
      | [r], _ => exact ⟨r, rfl⟩
    have hr : r = z := hz
    have hcz : c ∉ z.cps.toList := hr ▸ hf r (List.mem_singleton.mpr rfl)
    obtain ⟨f, hc⟩ := StrLaws.occ_chain z ⟨#[c]⟩ (z.length + 1)
    cases e : Builtin.Str.occurrences z ⟨#[c]⟩ 0 z.length (z.length + 1) with
    | nil => rfl
    | cons i l =>
      rw [e] at hc
      exact absurd (List.mem_of_getElem? ((StrLaws.subAt_one z c i).mp hc.2.1)) hcz
  unfold Txt.count
  by_cases h1 : rs.length = 1
  · rw [one h1, h1]
    rfl
  · unfold Txt.split at hl
    split at hl
    · exact absurd hl h1
    · split at hl
      · exact absurd hl h1
      · rw [hpb] at hl
        rw [hl]
        rfl
end GP

namespace GP
open PySem L2 GwM
def fldT (i : Nat) : List (Str × V) := putF "line" (.int i) []
theorem fldT_line {i : Nat} : (fldT i).lookup ("line" : Str) = some (.int i) := by
  unfold fldT
  rw [lookup_putF, if_pos rfl]
def spNoText (C : Addr) : Sp := fun vs H Q _ => ∃ (e : Addr) (i : Nat), vs = [.ref e, .int i] ∧ H e = some (newX e C none) ∧ i ≤ 100000 ∧
  ∀ dx H', (∀ b u, H b = some u → b ≠ e → H' b = some u) → H dx = none → H' e = some (newX e C (some dx)) → H' dx = some (xdO dx (fldT i)) → Q .non H'
abbrev jn (rs : List Str) : Str := Str.join ⟨#[10]⟩ rs
structure Lns (rs : List Str) : Prop where
  ne : rs ≠ []
  free : ∀ r ∈ rs, 10 ∉ r.cps.toList
  sm : SmR rs
theorem lnJ_len (c : Nat) : ∀ p : List (List Nat), (lnJ c p).length ≤ (p.map List.length).sum + p.length
  | [] => Nat.zero_le _
  | [a] => by show a.length ≤ _; simp
  | a :: b :: r => by
    have ih := lnJ_len c (b :: r)
    show (a ++ c :: lnJ c (b :: r)).length ≤ _
    rw [List.length_append, List.length_cons, List.map_cons, List.sum_cons, List.length_cons]
    omega
theorem sum_le (B : Nat) : ∀ l : List Nat, (∀ x ∈ l, x ≤ B) → l.sum ≤ l.length * B
  | [], _ => Nat.zero_le _
  | a :: l, h => by
    have ih := sum_le B l fun x hx => h x (List.mem_cons_of_mem _ hx)
    have ha := h a List.mem_cons_self
    rw [List.sum_cons, List.length_cons, Nat.succ_mul]
    omega
theorem SmR.jn {rs : List Str} (h : SmR rs) : (GP.jn rs).length ≤ 100000 + 100 := by
  show (GP.jn rs).cps.size ≤ _
  rw [← Array.length_toList, lnJ_join]
  have h1 := lnJ_len 10 (rs.map fun r => r.cps.toList)
  have h2 := sum_le 1000 ((rs.map fun r => r.cps.toList).map List.length) fun x hx => by
    rw [List.map_map] at hx
    obtain ⟨r, hr, rfl⟩ := List.mem_map.mp hx
    show r.cps.toList.length ≤ 1000
    rw [Array.length_toList]
    exact h.row r hr
  rw [List.length_map, List.length_map] at h2
  rw [List.length_map] at h1
  have h3 : rs.length * 1000 ≤ 100 * 1000 := Nat.mul_le_mul_right _ h.len
  have h4 := h.len
  omega
def gdB (rs : List Str) (r : Str) : Bool := decide (r.cps.size = wid rs) && thingsB r
def BadL (rs : List Str) (i : Nat) : Prop := (∃ r, rs[i]? = some r ∧ gdB rs r = false) ∧ ∀ m r, m < i → rs[m]? = some r → gdB rs r = true
theorem BadL.uniq {rs : List Str} {i j : Nat} (h : BadL rs i) (h' : BadL rs j) : i = j := by
  obtain ⟨⟨r, h1, h2⟩, h3⟩ := h
  obtain ⟨⟨r', h1', h2'⟩, h3'⟩ := h'
  refine Nat.le_antisymm (Nat.not_lt.mp fun z => ?_) (Nat.not_lt.mp fun z => ?_)
  · rw [h3 j r' z h1'] at h2'; cases h2'
  · rw [h3' i r z h1] at h2; cases h2
theorem BadL.no {rs : List Str} {i : Nat} (h : BadL rs i) : ¬ ∀ r ∈ rs, gdB rs r = true := fun z => by
  obtain ⟨⟨r, h1, h2⟩, _⟩ := h
  rw [z r (List.mem_of_getElem? h1)] at h2; cases h2
theorem gd_lenB {rs : List Str} (hne : rs ≠ []) (h : ∀ r ∈ rs, gdB rs r = true) : lenB rs = true ∧ rs.all thingsB = true := by
  have h' : ∀ r ∈ rs, r.cps.size = wid rs ∧ thingsB r = true := fun r hr => by
    have := h r hr
    unfold gdB at this
    rw [Bool.and_eq_true] at this
    exact ⟨of_decide_eq_true this.1, this.2⟩
  exact ⟨lenB_iff.mpr ⟨hne, fun r hr => (h' r hr).1⟩, List.all_eq_true.mpr fun r hr => (h' r hr).2⟩
def spWrB (K : PySem.W.Frag) (C : Addr) : Sp := fun vs H Q _ => ∃ (b : Addr) (rs : List Str), vs = [.ref b] ∧ Blk K C H b rs ∧ SmR rs ∧ Q (.str (jn rs)) H
def spReadB (K : PySem.W.Frag) (C CB CT : Addr) : Sp := fun vs H Q E => ∃ rs : List Str, vs = [.str (jn rs)] ∧ Lns rs ∧
  ((∀ r ∈ rs, gdB rs r = true) → colsB rs = true → ∀ b H', Same H H' → H b = none → Blk K C H' b rs → Q (.ref b) H') ∧
  (∀ i, BadL rs i → ∀ dx H', Same H H' → H' dx = some (xdO dx (fldT i)) → E (.ref CT) (some dx) H') ∧
  ((∀ r ∈ rs, gdB rs r = true) → colsB rs = false → ∀ H', Same H H' → E (.ref CB) none H')
def spTwoRows (CT : Addr) : Sp := fun vs H Q E => ∃ rs : List Str, vs = [.str (jn rs)] ∧ Lns rs ∧ (rs.length = 2 → Q .non H) ∧ (rs.length ≠ 2 → ∀ dx H', Same H H' → H' dx = some (xdO dx (fldT 2)) → E (.ref CT) (some dx) H')
def mvC (a b : Nat) : Nat := if b = 45 then 97 else if a = 45 then 98 else 112
def spMoveOf : Sp := fun vs H Q _ => ∃ a b : Nat, vs = [.str ⟨#[a, b]⟩] ∧ Q (.str ⟨#[mvC a b]⟩) H
end GP

namespace GP
open PySem L2 GwM
inductive Lay : List Nat → List Nat → List Nat → List Nat → List Nat → Prop
  | nil : Lay [] [] [] [] []
  | p {f s g h m : List Nat} {a b : Nat} : Lay f s g h m → isSignN a = true → isSignN b = true → Lay (f ++ [a]) (s ++ [b]) (g ++ [a]) (h ++ [b]) (m ++ [112])
  | a {f s g h m : List Nat} {a : Nat} : Lay f s g h m → isSignN a = true → Lay (f ++ [a]) s (g ++ [a]) (h ++ [45]) (m ++ [97])
  | b {f s g h m : List Nat} {b : Nat} : Lay f s g h m → isSignN b = true → Lay f (s ++ [b]) (g ++ [45]) (h ++ [b]) (m ++ [98])
theorem Lay.len {f s g h m : List Nat} (L : Lay f s g h m) : g.length = m.length ∧ h.length = m.length := by
  induction L with
  | nil => exact ⟨rfl, rfl⟩
  | p _ _ _ ih => simp only [List.length_append, List.length_singleton]; omega
  | a _ _ ih => simp only [List.length_append, List.length_singleton]; omega
  | b _ _ ih => simp only [List.length_append, List.length_singleton]; omega
theorem pla_old {q : Fra} {m : List Nat} {c k : Nat} (h : k ≤ m.length) : pla q (m ++ [c]) k = pla q m k := by
  unfold pla
  rw [List.take_append_of_le_length h]
theorem pla_new {q : Fra} {m : List Nat} {c : Nat} : pla q (m ++ [c]) (m.length + 1) = stp (pla q m m.length) c := by
  rw [pla_succ (c := c) (by rw [List.getElem?_append_right (Nat.le_refl _), Nat.sub_self]; rfl), pla_old (Nat.le_refl _)]
theorem Lay.pl {f s g h m : List Nat} (L : Lay f s g h m) : pla (0, 0) m m.length = ((f.length : Int), (s.length : Int)) := by
  induction L with
  | nil => rfl
  | p _ _ _ ih => rw [List.length_append, List.length_singleton, pla_new, ih, List.length_append, List.length_append]; rfl
  | a _ _ ih =>
    rw [List.length_append, List.length_singleton, pla_new, ih, List.length_append]
    show ((_ : Int) + 1, (_ : Int) + 0) = _
    rw [Int.add_zero]; rfl
  | b _ _ ih =>
    rw [List.length_append, List.length_singleton, pla_new, ih, List.length_append]
    show ((_ : Int) + 0, (_ : Int) + 1) = _
    rw [Int.add_zero]; rfl
theorem Lay.way {f s g h m : List Nat} (L : Lay f s g h m) : ∀ k, k ≤ m.length → 0 ≤ (pla (0, 0) m k).1 ∧ (pla (0, 0) m k).1 ≤ (f.length : Int) ∧ 0 ≤ (pla (0, 0) m k).2 ∧ (pla (0, 0) m k).2 ≤ (s.length : Int) := by
  have key : ∀ {f s g h m f' s' : List Nat} {c : Nat}, (∀ k, k ≤ m.length → 0 ≤ (pla (0, 0) m k).1 ∧ (pla (0, 0) m k).1 ≤ (f.length : Int) ∧ 0 ≤ (pla (0, 0) m k).2 ∧ (pla (0, 0) m k).2 ≤ (s.length : Int)) → Lay f' s' g h (m ++ [c]) → f.length ≤ f'.length → s.length ≤ s'.length →
      ∀ k, k ≤ (m ++ [c]).length → 0 ≤ (pla (0, 0) (m ++ [c]) k).1 ∧ (pla (0, 0) (m ++ [c]) k).1 ≤ (f'.length : Int) ∧ 0 ≤ (pla (0, 0) (m ++ [c]) k).2 ∧ (pla (0, 0) (m ++ [c]) k).2 ≤ (s'.length : Int) := fun {f s g h m f' s' c} ih L h1 h2 k hk => by
    by_cases e : k = (m ++ [c]).length
    · rw [e, L.pl]
      exact ⟨by omega, Int.le_refl _, by omega, Int.le_refl _⟩
    · have hk' : k ≤ m.length := by rw [List.length_append, List.length_singleton] at hk e; omega
      rw [pla_old hk']
      have := ih k hk'
      omega
  induction L with
  | nil => intro k hk; have : k = 0 := Nat.le_zero.mp hk; subst this; exact ⟨by decide, by decide, by decide, by decide⟩
  | p L h1 h2 ih => exact key ih (.p L h1 h2) (by simp) (by simp)
  | a L h1 ih => exact key ih (.a L h1) (by simp) (by simp)
  | b L h1 ih => exact key ih (.b L h1) (by simp) (by simp)
def LayAt (f s g h : List Nat) (i j k c : Nat) : Prop :=
  (c = 112 ∧ ∃ a b, f[i]? = some a ∧ s[j]? = some b ∧ g[k]? = some a ∧ h[k]? = some b ∧ isSignN a = true ∧ isSignN b = true) ∨
  (c = 97 ∧ ∃ a, f[i]? = some a ∧ g[k]? = some a ∧ h[k]? = some 45 ∧ isSignN a = true) ∨ (c = 98 ∧ ∃ b, s[j]? = some b ∧ g[k]? = some 45 ∧ h[k]? = some b ∧ isSignN b = true)
theorem at_app {l r : List Nat} {i a : Nat} (h : l[i]? = some a) : (l ++ r)[i]? = some a := by
  rw [List.getElem?_append_left (List.getElem?_eq_some_iff.mp h).1]; exact h
theorem at_end {l : List Nat} {i a : Nat} (h : i = l.length) : (l ++ [a])[i]? = some a := by
  rw [h, List.getElem?_append_right (Nat.le_refl _), Nat.sub_self]; rfl
theorem LayAt.app {f s g h f' s' g' h' : List Nat} {i j k c : Nat} (L : LayAt f s g h i j k c) : LayAt (f ++ f') (s ++ s') (g ++ g') (h ++ h') i j k c := by
  rcases L with ⟨e, a, b, h1, h2, h3, h4, h5, h6⟩ | ⟨e, a, h1, h2, h3, h4⟩ | ⟨e, b, h1, h2, h3, h4⟩
  · exact .inl ⟨e, a, b, at_app h1, at_app h2, at_app h3, at_app h4, h5, h6⟩
  · exact .inr (.inl ⟨e, a, at_app h1, at_app h2, at_app h3, h4⟩)
  · exact .inr (.inr ⟨e, b, at_app h1, at_app h2, at_app h3, h4⟩)
theorem Lay.at {f s g h m : List Nat} (L : Lay f s g h m) : ∀ k c, m[k]? = some c → LayAt f s g h (pla (0, 0) m k).1.toNat (pla (0, 0) m k).2.toNat k c := by
  have cases_ : ∀ {m : List Nat} {c k d : Nat}, (m ++ [d])[k]? = some c → (k < m.length ∧ m[k]? = some c) ∨ (k = m.length ∧ c = d) := fun {m c k d} hk => by
    by_cases e : k < m.length
    · rw [List.getElem?_append_left e] at hk; exact .inl ⟨e, hk⟩
    · rw [List.getElem?_append_right (by omega)] at hk
      have : k - m.length = 0 := by
        cases z : k - m.length with
        | zero => rfl
        | succ n => rw [z] at hk; cases hk
      rw [this] at hk
      cases hk
      exact .inr ⟨by omega, rfl⟩
  induction L with
  | nil => intro k c hk; cases hk
  | p L h1 h2 ih =>
    intro k c hk
    rcases cases_ hk with ⟨e, hk⟩ | ⟨rfl, rfl⟩
    · rw [pla_old (Nat.le_of_lt e)]; exact (ih k c hk).app
    · rw [pla_old (Nat.le_refl _), L.pl]
      exact .inl ⟨rfl, _, _, at_end (Int.toNat_natCast _), at_end (Int.toNat_natCast _), at_end L.len.1.symm, at_end L.len.2.symm, h1, h2⟩
  | @a _ _ _ _ _ a0 L h1 ih =>
    intro k c hk
    rcases cases_ hk with ⟨e, hk⟩ | ⟨rfl, rfl⟩
    · rw [pla_old (Nat.le_of_lt e)]
      have := (ih k c hk).app (f' := [a0]) (s' := []) (g' := [a0]) (h' := [45])
      rw [List.append_nil] at this
      exact this
    · rw [pla_old (Nat.le_refl _), L.pl]
      exact .inr (.inl ⟨rfl, _, at_end (Int.toNat_natCast _), at_end L.len.1.symm, at_end L.len.2.symm, h1⟩)
  | @b _ _ _ _ _ b0 L h1 ih =>
    intro k c hk
    rcases cases_ hk with ⟨e, hk⟩ | ⟨rfl, rfl⟩
    · rw [pla_old (Nat.le_of_lt e)]
      have := (ih k c hk).app (f' := []) (s' := [b0]) (g' := [45]) (h' := [b0])
      rw [List.append_nil] at this
      exact this
    · rw [pla_old (Nat.le_refl _), L.pl]
      exact .inr (.inr ⟨rfl, _, at_end (Int.toNat_natCast _), at_end L.len.1.symm, at_end L.len.2.symm, h1⟩)
theorem Lay.bare {f s g h m : List Nat} (L : Lay f s g h m) : g.filter (· != 45) = f ∧ h.filter (· != 45) = s := by
  have one : ∀ {a : Nat}, isSignN a = true → [a].filter (· != 45) = [a] := fun {a} ha => List.filter_cons_of_pos (by simpa using sign_ne ha)
  have none_ : [45].filter (· != 45) = ([] : List Nat) := rfl
  induction L with
  | nil => exact ⟨rfl, rfl⟩
  | p _ h1 h2 ih => rw [List.filter_append, List.filter_append, one h1, one h2, ih.1, ih.2]; exact ⟨rfl, rfl⟩
  | a _ h1 ih => rw [List.filter_append, List.filter_append, one h1, none_, ih.1, ih.2, List.append_nil]; exact ⟨rfl, rfl⟩
  | b _ h1 ih => rw [List.filter_append, List.filter_append, one h1, none_, ih.1, ih.2, List.append_nil]; exact ⟨rfl, rfl⟩
theorem Lay.ok {f s g h m : List Nat} (L : Lay f s g h m) : (∀ c ∈ g, okT c) ∧ (∀ c ∈ h, okT c) ∧ (∀ c ∈ m, mvOk c) ∧ (∀ c ∈ f, isSignN c = true) ∧ (∀ c ∈ s, isSignN c = true) := by
  have app : ∀ {l : List Nat} {a : Nat} {P : Nat → Prop}, (∀ c ∈ l, P c) → P a → ∀ c ∈ l ++ [a], P c := fun {l a P} h ha c hc => by
    rcases List.mem_append.mp hc with hc | hc
    · exact h c hc
    · rw [List.mem_singleton.mp hc]; exact ha
  induction L with
  | nil => exact ⟨fun _ z => (nomatch z), fun _ z => (nomatch z), fun _ z => (nomatch z), fun _ z => (nomatch z), fun _ z => (nomatch z)⟩
  | p _ h1 h2 ih => exact ⟨app ih.1 (.inr h1), app ih.2.1 (.inr h2), app ih.2.2.1 (.inl rfl), app ih.2.2.2.1 h1, app ih.2.2.2.2 h2⟩
  | a _ h1 ih => exact ⟨app ih.1 (.inr h1), app ih.2.1 (.inl rfl), app ih.2.2.1 (.inr (.inl rfl)), app ih.2.2.2.1 h1, ih.2.2.2.2⟩
  | b _ h1 ih => exact ⟨app ih.1 (.inl rfl), app ih.2.1 (.inr h1), app ih.2.2.1 (.inr (.inr rfl)), ih.2.2.2.1, app ih.2.2.2.2 h1⟩
theorem Lay.mv {f s g h m : List Nat} (L : Lay f s g h m) : (List.range m.length).map (fun k => mvC (g.getD k 0) (h.getD k 0)) = m := by
  refine List.ext_getElem (by simp) fun k h1 h2 => ?_
  rw [List.getElem_map, List.getElem_range]
  rcases L.at k _ (List.getElem?_eq_getElem h2) with ⟨e, a, b, _, _, h3, h4, h5, h6⟩ | ⟨e, a, _, h3, h4, h5⟩ | ⟨e, b, _, h3, h4, h5⟩
  · rw [getD_of h3, getD_of h4, e]; unfold mvC; rw [if_neg (sign_ne h6), if_neg (sign_ne h5)]
  · rw [getD_of h3, getD_of h4, e]; unfold mvC; rw [if_pos rfl]
  · rw [getD_of h3, getD_of h4, e]; unfold mvC; rw [if_neg (sign_ne h5), if_pos rfl]
theorem Lay.rs {f s g h m : List Nat} (L : Lay f s g h m) : RsOk [⟨g.toArray⟩, ⟨h.toArray⟩] 2 m.length := by
  refine ⟨rfl, fun r hr => ?_, fun r hr c hc => ?_, fun k hk => ?_⟩
  · rcases List.mem_cons.mp hr with rfl | hr
    · exact L.len.1
    · rw [List.mem_singleton.mp hr]; exact L.len.2
  · rcases List.mem_cons.mp hr with rfl | hr
    · exact L.ok.1 c hc
    · rw [List.mem_singleton.mp hr] at hc; exact L.ok.2.1 c hc
  · rcases L.at k _ (List.getElem?_eq_getElem hk) with ⟨e, a, b, _, _, h3, h4, h5, h6⟩ | ⟨e, a, _, h3, h4, h5⟩ | ⟨e, b, _, h3, h4, h5⟩
    · exact ⟨_, List.mem_cons_self, a, h3, sign_ne h5⟩
    · exact ⟨_, List.mem_cons_self, a, h3, sign_ne h5⟩
    · exact ⟨_, List.mem_cons_of_mem _ (List.mem_singleton.mpr rfl), b, h4, sign_ne h5⟩
def lcolS (g h : List Nat) (k : Nat) : Str := ⟨#[g.getD k 0, h.getD k 0]⟩
def spLaidC (K : PySem.W.Frag) : Sp := fun vs H Q _ => ∃ (f s mv : Str) (g h : List Nat), vs = [.str f, .str s, .str (Str.ofString "-"), .str (Str.ofString "-"), .str mv] ∧ Lay f.cps.toList s.cps.toList g h mv.cps.toList ∧ mv.cps.size ≤ 100 ∧
  ∀ l H', Same H H' → H l = none → H' l = some (.lst ((List.range mv.cps.size).map fun k => V.str (lcolS g h k))) → Q (.ref l) H'
def spWrL (K : PySem.W.Frag) : Sp := fun vs H Q _ => ∃ (f s mv : Str) (g h : List Nat), vs = [.str f, .str s, .str mv] ∧ Lay f.cps.toList s.cps.toList g h mv.cps.toList ∧ mv.cps.size ≤ 100 ∧
  ∀ H', Same H H' → Q (.str (jn [⟨g.toArray⟩, ⟨h.toArray⟩])) H'
def mvS (g h : Str) : Str := ⟨((List.range g.cps.size).map fun k => mvC (g.cps.toList.getD k 0) (h.cps.toList.getD k 0)).toArray⟩
def spReadL (K : PySem.W.Frag) (CB CT : Addr) : Sp := fun vs H Q E => ∃ rs : List Str, vs = [.str (jn rs)] ∧ Lns rs ∧
  (∀ g h, rs = [g, h] → (∀ r ∈ rs, gdB rs r = true) → colsB rs = true → ∀ q H', Same H H' → H' q = some (.tup [.str (strike 45 g), .str (strike 45 h), .str (mvS g h)]) → Q (.ref q) H') ∧
  (rs.length ≠ 2 → ∀ dx H', Same H H' → H' dx = some (xdO dx (fldT 2)) → E (.ref CT) (some dx) H') ∧
  (rs.length = 2 → ∀ i, BadL rs i → ∀ dx H', Same H H' → H' dx = some (xdO dx (fldT i)) → E (.ref CT) (some dx) H') ∧
  (rs.length = 2 → (∀ r ∈ rs, gdB rs r = true) → colsB rs = false → ∀ H', Same H H' → E (.ref CB) none H')
theorem lcol_cols {f s g h m : List Nat} (L : Lay f s g h m) : cols ((List.range m.length).map (lcolS g h)) 2 = [⟨g.toArray⟩, ⟨h.toArray⟩] := by
  have e1 : colL ((List.range m.length).map (lcolS g h)) 0 = g := by
    unfold colL
    rw [List.map_map, ← L.len.1]
    exact range_getD g
  have e2 : colL ((List.range m.length).map (lcolS g h)) 1 = h := by
    unfold colL
    rw [List.map_map, ← L.len.2]
    exact range_getD h
  show [colS _ 0, colS _ 1] = _
  unfold colS
  rw [e1, e2]
end GP

namespace GP
open PySem L2 GwM
/-! ### what is the same -/
def FlatE (v u : V) : Prop := (∃ s, v = .str s ∧ u = .str s) ∨ ∃ n, v = .int n ∧ u = .int n
def EqD (K : PySem.W.Frag) (H : Hp) : Nat → V → V → Prop
  | 0, v, u => FlatE v u
  | d + 1, v, u => FlatE v u ∨ ∃ p q xs ys, v = .ref p ∧ u = .ref q ∧ SqT K H p xs ∧ SqT K H q ys ∧ xs.length = ys.length ∧ xs.length ≤ 100 ∧ ∀ (i : Nat) x y, xs[i]? = some x → ys[i]? = some y → EqD K H d x y
theorem EqD.same {K : PySem.W.Frag} {H H' : Hp} (e : Same H H') : ∀ {d : Nat} {v u : V}, EqD K H d v u → EqD K H' d v u
  | 0, _, _, h => h
  | d + 1, _, _, h => h.imp id fun ⟨p, q, xs, ys, h1, h2, h3, h4, h5, h6, h7⟩ => ⟨p, q, xs, ys, h1, h2, Same.tup e h3, Same.tup e h4, h5, h6, fun i x y hx hy => EqD.same e (h7 i x y hx hy)⟩
theorem EqD.flat {K : PySem.W.Frag} {H : Hp} {d : Nat} {v u : V} (h : FlatE v u) : EqD K H d v u := by
  cases d with
  | zero => exact h
  | succ d => exact .inl h
theorem EqD.two {K : PySem.W.Frag} {H : Hp} {p q : Addr} {x y x' y' : V} {d : Nat} (hp : SqT K H p [x, y]) (hq : SqT K H q [x', y']) (h1 : EqD K H d x x') (h2 : EqD K H d y y') : EqD K H (d + 1) (.ref p) (.ref q) := by
  refine .inr ⟨p, q, _, _, rfl, rfl, hp, hq, rfl, by show 2 ≤ 100; decide, fun i a b ha hb => ?_⟩
  match i, ha, hb with
  | 0, ha, hb => cases ha; cases hb; exact h1
  | 1, ha, hb => cases ha; cases hb; exact h2
def spSameE (K : PySem.W.Frag) (d : Nat) : Sp := fun vs H Q _ => ∃ v u : V, vs = [v, u] ∧ EqD K H d v u ∧ ∀ H', Same H H' → Q (.bl true) H'
/-! ### what is told of a text -/
inductive Tell : Bool → List Str → List V → Prop
  | two {rs : List Str} : rs.length ≠ 2 → Tell true rs [.str (Str.ofString "text"), .int 2]
  | text {f : Bool} {rs : List Str} {i : Nat} : (f = true → rs.length = 2) → BadL rs i → Tell f rs [.str (Str.ofString "text"), .int (i : Int)]
  | block {f : Bool} {rs : List Str} : (f = true → rs.length = 2) → (∀ r ∈ rs, gdB rs r = true) → colsB rs = false → Tell f rs [.str (Str.ofString "block"), .int 0]
theorem Tell.not {f : Bool} {rs : List Str} {ys : List V} (h : Tell f rs ys) (h2 : f = true → rs.length = 2) (hg : ∀ r ∈ rs, gdB rs r = true) (hc : colsB rs = true) : False := by
  cases h with
  | two z => exact z (h2 rfl)
  | text _ b => exact b.no hg
  | block _ _ z => rw [hc] at z; cases z
theorem Tell.uniq {f : Bool} {rs : List Str} {ys zs : List V} (h : Tell f rs ys) (h' : Tell f rs zs) : ys = zs := by
  cases h with
  | two z => cases h' with
    | two _ => rfl
    | text a _ => exact absurd (a rfl) z
    | block a _ _ => exact absurd (a rfl) z
  | text a b => cases h' with
    | two z => exact absurd (a rfl) z
    | text _ b' => rw [b.uniq b']
    | block _ hg _ => exact absurd hg b.no
  | block a hg hc => cases h' with
    | two z => exact absurd (a rfl) z
    | text _ b => exact absurd hg b.no
    | block _ _ _ => rfl
def Wt (K : PySem.W.Frag) (C CB CT : Addr) (f : Bool) (rs : List Str) (H : Hp) (q : Addr) : Prop :=
  (f = true ∧ ∃ g h q2, rs = [g, h] ∧ (∀ r ∈ rs, gdB rs r = true) ∧ colsB rs = true ∧ SqT K H q [.str (Str.ofString "read"), .ref q2] ∧ SqT K H q2 [.str (strike 45 g), .str (strike 45 h), .str (mvS g h)]) ∨
  (f = false ∧ (∀ r ∈ rs, gdB rs r = true) ∧ colsB rs = true ∧ ∃ b, SqT K H q [.str (Str.ofString "read"), .ref b] ∧ Blk K C H b rs) ∨
  (∃ (ea dx : Addr) (i : Nat), SqT K H q [.str (Str.ofString "no"), .ref ea] ∧ H ea = some (exO ea (.ref CT) (some dx)) ∧ H dx = some (xdO dx (fldT i)) ∧ Tell f rs [.str (Str.ofString "text"), .int (i : Int)]) ∨
  (∃ ea : Addr, SqT K H q [.str (Str.ofString "no"), .ref ea] ∧ H ea = some (exO ea (.ref CB) none) ∧ Tell f rs [.str (Str.ofString "block"), .int 0])
def spTold67 (K : PySem.W.Frag) (C : Addr) : Sp := fun vs H Q _ => ∃ (rs : List Str) (f : Bool), vs = [.str (jn rs), .bl f] ∧ Lns rs ∧
  ((∃ ys, Tell f rs ys ∧ ∀ q H', Same H H' → SqT K H' q ys → Q (.ref q) H') ∨
   (f = true ∧ ∃ g h, rs = [g, h] ∧ (∀ r ∈ rs, gdB rs r = true) ∧ colsB rs = true ∧ ∀ q q2 H', Same H H' → SqT K H' q [.str (Str.ofString "read"), .ref q2] → SqT K H' q2 [.str (strike 45 g), .str (strike 45 h), .str (mvS g h)] → Q (.ref q) H') ∨
   (f = false ∧ (∀ r ∈ rs, gdB rs r = true) ∧ colsB rs = true ∧ ∀ q b H', Same H H' → SqT K H' q [.str (Str.ofString "read"), .ref b] → Blk K C H' b rs → Q (.ref q) H'))
def spColsW (K : PySem.W.Frag) : Sp := fun vs H Q _ => ∃ (s t : Addr) (ns : List Int) (k : Int) (sg : Str) (n w : Nat), vs = [.ref s, .ref t, .str sg, .int n, .int w] ∧ Ctr K H s t ns k ∧ k ≤ 80000 ∧ 0 < n ∧ n ≤ 10 ∧ w ≤ 50 ∧ 0 < sg.cps.size ∧ sg.cps.size ≤ 12 ∧ (∀ c ∈ sg.cps.toList, isSignN c = true) ∧
  ∀ (l : Addr) (rs : List Str) (k' : Int) (H' : Hp), RsOk rs n w → H' l = some (.lst (rs.map V.str)) → H l = none → Same (Wo t H) (Wo t H') → H' t = some (.lst [.int k']) → k ≤ k' → k' ≤ k + 600 → Q (.ref l) H'
end GP

namespace GP
open PySem L2 GwM
def grP (rs : List Str) (cs : List Nat) (n : Nat) : List Str := (List.range n).map fun r => if r < cs.length then rs.getD r ⟨#[]⟩ ++ ⟨#[cs.getD r 0]⟩ else rs.getD r ⟨#[]⟩
theorem grP_nil {rs : List Str} {n : Nat} (h : rs.length = n) : grP rs [] n = rs := by
  unfold grP
  refine List.ext_getElem (by rw [List.length_map, List.length_range, h]) fun i h1 h2 => ?_
  rw [List.getElem_map, List.getElem_range, if_neg (by simp), getD_of (List.getElem?_eq_getElem h2)]
theorem grP_len {rs : List Str} {cs : List Nat} {n : Nat} : (grP rs cs n).length = n := by unfold grP; rw [List.length_map, List.length_range]
theorem grP_at {rs : List Str} {cs : List Nat} {n : Nat} (hl : rs.length = n) (h : cs.length < n) : (grP rs cs n)[cs.length]? = rs[cs.length]? := by
  unfold grP
  rw [List.getElem?_map, List.getElem?_range h]
  show some (if cs.length < cs.length then _ else rs.getD cs.length ⟨#[]⟩) = _
  have h' : cs.length < rs.length := by omega
  rw [if_neg (Nat.lt_irrefl _), getD_of (List.getElem?_eq_getElem h'), List.getElem?_eq_getElem h']
theorem grP_get {rs : List Str} {cs : List Nat} {n i : Nat} (h : i < (grP rs cs n).length) : (grP rs cs n)[i] = if i < cs.length then rs.getD i ⟨#[]⟩ ++ ⟨#[cs.getD i 0]⟩ else rs.getD i ⟨#[]⟩ := by
  have h' : i < n := by rw [grP_len] at h; exact h
  have e : (grP rs cs n)[i]? = some (if i < cs.length then rs.getD i ⟨#[]⟩ ++ ⟨#[cs.getD i 0]⟩ else rs.getD i ⟨#[]⟩) := by
    unfold grP
    rw [List.getElem?_map, List.getElem?_range h']
    rfl
  rw [List.getElem?_eq_getElem h] at e
  exact Option.some.inj e
theorem grP_snoc {rs : List Str} {cs : List Nat} {n c : Nat} {r : Str} (hr : rs[cs.length]? = some r) : (grP rs cs n).set cs.length (r ++ ⟨#[c]⟩) = grP rs (cs ++ [c]) n := by
  refine List.ext_getElem (by rw [List.length_set, grP_len, grP_len]) fun i h1 h2 => ?_
  rw [List.getElem_set, grP_get h2, List.length_append, List.length_singleton]
  by_cases e : cs.length = i
  · subst e
    rw [if_pos rfl, if_pos (by omega), getD_of hr, getD_of (x := c) (by rw [List.getElem?_append_right (Nat.le_refl _), Nat.sub_self]; rfl)]
  · rw [if_neg e, grP_get]
    by_cases h3 : i < cs.length
    · rw [if_pos h3, if_pos (by omega)]
      have : (cs ++ [c]).getD i 0 = cs.getD i 0 := by rw [List.getD_eq_getElem?_getD, List.getD_eq_getElem?_getD, List.getElem?_append_left h3]
      rw [this]
    · rw [if_neg h3, if_neg (by omega)]
theorem grP_full {rs : List Str} {cs : List Nat} {n : Nat} (h : cs.length = n) : grP rs cs n = grown rs cs n := by
  unfold grP grown
  refine List.map_congr_left fun r hr => ?_
  rw [if_pos (by rw [h]; exact List.mem_range.mp hr)]
end GP

namespace GP
open PySem L2 GwM
/-! ### rows spoilt -/
theorem gd_of {rs : List Str} {r : Str} (h1 : r.cps.size = wid rs) (h2 : thingsB r = true) : gdB rs r = true := by unfold gdB; rw [decide_eq_true h1, h2]; rfl
theorem gd_size {rs : List Str} {r : Str} (h1 : r.cps.size ≠ wid rs) : gdB rs r = false := by unfold gdB; rw [decide_eq_false h1]; rfl
theorem gd_thing {rs : List Str} {r : Str} (h1 : thingsB r = false) : gdB rs r = false := by unfold gdB; rw [h1, Bool.and_false]
theorem th_ok {r : Str} (h : ∀ c ∈ r.cps.toList, okT c) : thingsB r = true := things_iff.mpr fun c hc hn => (h c hc).resolve_left hn
theorem th_bad {r : Str} {c : Nat} (hc : c ∈ r.cps.toList) (hn : c ≠ 45) (hs : isSignN c = false) : thingsB r = false := Bool.eq_false_iff.mpr fun z => by
  have := things_iff.mp z c hc hn
  rw [hs] at this; cases this
theorem wid_at {rs : List Str} {r : Str} (h : rs[0]? = some r) : wid rs = r.cps.size := by
  cases rs with
  | nil => cases h
  | cons a l => cases h; rfl
theorem BadL.mk {rs : List Str} {i : Nat} {r : Str} (h1 : rs[i]? = some r) (h2 : gdB rs r = false) (h3 : ∀ m r, m < i → rs[m]? = some r → gdB rs r = true) : BadL rs i := ⟨⟨r, h1, h2⟩, h3⟩
section
variable {rs : List Str} {n w k : Nat} {o : Str}
theorem RsOk.row {j : Nat} {r : Str} (h : RsOk rs n w) (hr : rs[j]? = some r) : r.cps.size = w ∧ thingsB r = true := ⟨h.wid r (List.mem_of_getElem? hr), th_ok (h.ok r (List.mem_of_getElem? hr))⟩
theorem set_at {j : Nat} {r : Str} (hr : (rs.set k o)[j]? = some r) : (j = k ∧ r = o) ∨ (j ≠ k ∧ rs[j]? = some r) := by
  by_cases e : k = j
  · subst e
    have hl : k < rs.length := by
      have := (List.getElem?_eq_some_iff.mp hr).1
      rwa [List.length_set] at this
    rw [List.getElem?_set_self hl] at hr
    cases hr
    exact .inl ⟨rfl, rfl⟩
  · rw [List.getElem?_set_ne e] at hr
    exact .inr ⟨fun z => e z.symm, hr⟩
theorem bad_quote (h : RsOk rs n w) (hk : k < n) (hs : o.cps.size = w) (ho : thingsB o = false) : BadL (rs.set k o) k := by
  have hl := h.len
  have hkk : (rs.set k o)[k]? = some o := List.getElem?_set_self (by omega)
  have hw : wid (rs.set k o) = w := by
    have h0 : 0 < (rs.set k o).length := by rw [List.length_set]; omega
    rw [wid_at (List.getElem?_eq_getElem h0)]
    rcases set_at (List.getElem?_eq_getElem h0) with ⟨_, e⟩ | ⟨_, e⟩
    · rw [e]; exact hs
    · exact (h.row e).1
  refine .mk hkk (gd_thing ho) fun m r hm hr => ?_
  rcases set_at hr with ⟨e, _⟩ | ⟨_, e⟩
  · omega
  · exact gd_of (by rw [hw]; exact (h.row e).1) (h.row e).2
theorem bad_len (h : RsOk rs n w) (hk : k < n) (hn : 1 < n) (hs : o.cps.size ≠ w) (ho : thingsB o = true) : BadL (rs.set k o) (max k 1) := by
  have hl := h.len
  have hkk : (rs.set k o)[k]? = some o := List.getElem?_set_self (by omega)
  by_cases k0 : k = 0
  · subst k0
    have hw : wid (rs.set 0 o) = o.cps.size := wid_at hkk
    have h1 : 1 < rs.length := by omega
    have h11 : (rs.set 0 o)[1]? = some rs[1] := by rw [List.getElem?_set_ne (by decide)]; exact List.getElem?_eq_getElem h1
    refine .mk h11 (gd_size ?_) fun m r hm hr => ?_
    · rw [hw, (h.row (List.getElem?_eq_getElem h1)).1]; exact fun z => hs z.symm
    · have : m = 0 := by omega
      subst this
      rw [hkk] at hr
      cases hr
      exact gd_of hw.symm ho
  · have e : max k 1 = k := by omega
    rw [e]
    have h0 : 0 < rs.length := by omega
    have h00 : (rs.set k o)[0]? = some rs[0] := by rw [List.getElem?_set_ne k0]; exact List.getElem?_eq_getElem h0
    have hw : wid (rs.set k o) = w := by rw [wid_at h00]; exact (h.row (List.getElem?_eq_getElem h0)).1
    refine .mk hkk (gd_size (by rw [hw]; exact hs)) fun m r hm hr => ?_
    rcases set_at hr with ⟨e, _⟩ | ⟨_, e⟩
    · omega
    · exact gd_of (by rw [hw]; exact (h.row e).1) (h.row e).2
theorem bad_both {j : Nat} {x y : Str} (h : RsOk rs n w) (hk : k < n) (hj : j < n) (hn : 1 < n) (hs : o.cps.size = w) (ho : thingsB o = false) (hx : (rs.set k o)[j]? = some x) (hy : y.cps.toList = x.cps.toList ++ [65]) : BadL ((rs.set k o).set j y) (min k (max j 1)) := by
  have hl := h.len
  have hxs : x.cps.size = w := by
    rcases set_at hx with ⟨_, e⟩ | ⟨_, e⟩
    · rw [e]; exact hs
    · exact (h.row e).1
  have hys : y.cps.size = w + 1 := by rw [← Array.length_toList, hy, List.length_append, Array.length_toList, hxs]; rfl
  have hjj : ((rs.set k o).set j y)[j]? = some y := List.getElem?_set_self (by rw [List.length_set]; omega)
  have all2 : ∀ {m : Nat} {r : Str}, ((rs.set k o).set j y)[m]? = some r → (m = j ∧ r = y) ∨ (m ≠ j ∧ m = k ∧ r = o) ∨ (m ≠ j ∧ m ≠ k ∧ rs[m]? = some r) := fun {m r} hr => by
    rcases set_at hr with e | ⟨e1, e2⟩
    · exact .inl e
    · rcases set_at e2 with ⟨e3, e4⟩ | ⟨e3, e4⟩
      · exact .inr (.inl ⟨e1, e3, e4⟩)
      · exact .inr (.inr ⟨e1, e3, e4⟩)
  have ex : ∀ m, m < n → ∃ r, ((rs.set k o).set j y)[m]? = some r := fun m hm => ⟨_, List.getElem?_eq_getElem (by rw [List.length_set, List.length_set]; omega)⟩
  have thy : k ≠ j → thingsB y = true := fun e => by
    rcases set_at hx with ⟨e1, _⟩ | ⟨_, e2⟩
    · exact absurd e1.symm e
    · refine th_ok fun c hc => ?_
      rw [hy] at hc
      rcases List.mem_append.mp hc with hc | hc
      · exact h.ok x (List.mem_of_getElem? e2) c hc
      · rw [List.mem_singleton.mp hc]; exact .inr (by decide)
  have bady : k = j → thingsB y = false := fun e => Bool.eq_false_iff.mpr fun z => by
    rcases set_at hx with ⟨_, e2⟩ | ⟨e1, _⟩
    · rw [e2] at hy
      refine (Bool.eq_false_iff.mp ho) (things_iff.mpr fun c hc hn => things_iff.mp z c (by rw [hy]; exact List.mem_append_left _ hc) hn)
    · exact e1 e.symm
  by_cases j0 : j = 0
  · subst j0
    have hw : wid ((rs.set k o).set 0 y) = w + 1 := by rw [wid_at hjj]; exact hys
    by_cases k0 : k = 0
    · rw [show min k (max 0 1) = 0 by omega]
      exact .mk hjj (gd_thing (bady k0)) fun m r hm => absurd hm (Nat.not_lt_zero _)
    · rw [show min k (max 0 1) = 1 by omega]
      obtain ⟨r1, hr1⟩ := ex 1 hn
      refine .mk hr1 (gd_size ?_) fun m r hm hr => ?_
      · rw [hw]
        rcases all2 hr1 with ⟨e, _⟩ | ⟨_, _, e⟩ | ⟨_, _, e⟩
        · cases e
        · rw [e, hs]; omega
        · rw [(h.row e).1]; omega
      · have : m = 0 := by omega
        subst this
        rw [hjj] at hr
        cases hr
        exact gd_of (by rw [hw]; exact hys) (thy k0)
  · have hw : wid ((rs.set k o).set j y) = w := by
      obtain ⟨r0, hr0⟩ := ex 0 (by omega)
      rw [wid_at hr0]
      rcases all2 hr0 with ⟨e, _⟩ | ⟨_, _, e⟩ | ⟨_, _, e⟩
      · exact absurd e.symm j0
      · rw [e]; exact hs
      · exact (h.row e).1
    obtain ⟨ri, hri⟩ := ex (min k (max j 1)) (by omega)
    refine .mk hri ?_ fun m r hm hr => ?_
    · rcases all2 hri with ⟨_, e⟩ | ⟨_, _, e⟩ | ⟨e1, e2, _⟩
      · rw [e]; exact gd_size (by rw [hw, hys]; omega)
      · rw [e]; exact gd_thing ho
      · omega
    · rcases all2 hr with ⟨e, _⟩ | ⟨_, e, _⟩ | ⟨_, _, e⟩
      · omega
      · omega
      · exact gd_of (by rw [hw]; exact (h.row e).1) (h.row e).2
theorem bad_tail (h : RsOk rs n w) (hk : k < n) (hs : o.cps.size = w) (ho : thingsB o = false) {f : Str → Str} (hf : ∀ r, (f r).cps.toList = r.cps.toList ++ [45]) : BadL ((rs.set k o).map f) k := by
  have hb := bad_quote h hk hs ho
  have hl := h.len
  have sz : ∀ r, (f r).cps.size = r.cps.size + 1 := fun r => by rw [← Array.length_toList, hf, List.length_append, Array.length_toList]; rfl
  have hw : wid ((rs.set k o).map f) = wid (rs.set k o) + 1 := by
    have h0 : 0 < (rs.set k o).length := by rw [List.length_set]; omega
    rw [wid_at (r := f ((rs.set k o)[0])) (by rw [List.getElem?_map, List.getElem?_eq_getElem h0]; rfl), sz, wid_at (List.getElem?_eq_getElem h0)]
  have th : ∀ r, thingsB (f r) = thingsB r := fun r => by
    rw [Bool.eq_iff_iff, things_iff, things_iff, hf]
    refine ⟨fun z c hc => z c (List.mem_append_left _ hc), fun z c hc hn => ?_⟩
    rcases List.mem_append.mp hc with hc | hc
    · exact z c hc hn
    · exact absurd (List.mem_singleton.mp hc) hn
  have gd : ∀ r, gdB ((rs.set k o).map f) (f r) = gdB (rs.set k o) r := fun r => by
    unfold gdB
    rw [hw, sz, th]
    congr 1
    rw [Bool.eq_iff_iff, decide_eq_true_iff, decide_eq_true_iff]
    omega
  obtain ⟨⟨r, h1, h2⟩, h3⟩ := hb
  refine .mk (r := f r) (by rw [List.getElem?_map, h1]; rfl) (by rw [gd]; exact h2) fun m r' hm hr => ?_
  rw [List.getElem?_map] at hr
  cases e : (rs.set k o)[m]? with
  | none => rw [e] at hr; cases hr
  | some r0 => rw [e] at hr; cases hr; rw [gd]; exact h3 m r0 hm e
theorem wide_ok (h : RsOk rs n w) (hn : 0 < n) (hk : k ≤ w) : (∀ r ∈ rs.map (wide k), gdB (rs.map (wide k)) r = true) ∧ colsB (rs.map (wide k)) = false := by
  have hl := h.len
  have sz : ∀ r ∈ rs, (wide k r).cps.size = w + 1 := fun r hr => by
    show (r.cps.toList.take k ++ [45] ++ r.cps.toList.drop k).length = _
    rw [List.length_append, List.length_append, List.length_take, List.length_drop, Array.length_toList, h.wid r hr]
    simp only [List.length_singleton]
    omega
  have hw : wid (rs.map (wide k)) = w + 1 := by
    have h0 : 0 < rs.length := by omega
    rw [wid_at (r := wide k rs[0]) (by rw [List.getElem?_map, List.getElem?_eq_getElem h0]; rfl)]
    exact sz _ (List.getElem_mem h0)
  have g1 : ∀ r ∈ rs.map (wide k), gdB (rs.map (wide k)) r = true := fun y hy => by
    obtain ⟨r, hr, rfl⟩ := List.mem_map.mp hy
    refine gd_of (by rw [hw]; exact sz r hr) (th_ok fun c hc => ?_)
    have hc' : c ∈ r.cps.toList.take k ++ [45] ++ r.cps.toList.drop k := hc
    rcases List.mem_append.mp hc' with hc | hc
    · rcases List.mem_append.mp hc with hc | hc
      · exact h.ok r hr c (List.mem_of_mem_take hc)
      · exact .inl (List.mem_singleton.mp hc)
    · exact h.ok r hr c (List.mem_of_mem_drop hc)
  refine ⟨g1, ?_⟩
  have hb := bF_wide h hn hk
  obtain ⟨e1, e2⟩ := gd_lenB (by intro z; have := congrArg List.length z; rw [List.length_map] at this; have : rs.length = 0 := this; omega) g1
  unfold blockB at hb
  rw [e1, e2, Bool.true_and, Bool.true_and] at hb
  exact hb
end
def spSpoilt67 (K : PySem.W.Frag) : Sp := fun vs H Q _ => ∃ (s t a : Addr) (ns : List Int) (k : Int) (rs : List Str) (n w : Nat), vs = [.ref s, .ref t, .ref a] ∧ Ctr K H s t ns k ∧ k ≤ 90000 ∧ H a = some (.lst (rs.map V.str)) ∧ a ≠ t ∧ RsOk rs n w ∧ 0 < n ∧ n ≤ 10 ∧ w ≤ 60 ∧
  ∀ (q l d : Addr) (rs' : List Str) (ys : List V) (H' : Hp), H' q = some (.tup [.ref l, .ref d]) → H' l = some (.lst (rs'.map V.str)) → H' d = some (.tup ys) → (∀ f : Bool, (f = true → n = 2) → Tell f rs' ys) → Lns rs' → rs'.length = n → Same (Wo t H) (Wo t H') → H' t = some (.lst [.int (k + 1)]) → Q (.ref q) H'
end GP

namespace L2
open PySem PySem.Spec PyProof.Rows
def tOrS (ta tb : TE) : TE := fun σ H Q => ta σ H fun x H1 => ∃ z : Str, x = .str z ∧ z.length ≤ 100000 ∧ if z.cps.size = 0 then tb σ H1 Q else Q (.str z) H1
theorem pe_orS {X : Cx} {a b : Expr} {rest : List Expr} {pos : Pos} {ta tb : TE} (ha : PE X a ta) (hb : PE X (.BoolOp .Or (b :: rest) pos) tb) : PE X (.BoolOp .Or (a :: b :: rest) pos) (tOrS ta tb) := by
  intro pins s σ H Q I h
  refine BoolOp_or (thn (ha pins s σ H _ I h) fun v s1 ⟨x, H1, I1, r1, q1⟩ => ?_)
  obtain ⟨z, rfl, hz, q1⟩ := q1
  obtain ⟨t, rfl⟩ := r1
  have I2 : Inv X pins σ H1 { s1 with toks := s1.toks + 1 + 1 } := I1.tok _ (by omega)
  refine PySem.P.truthy_str (by omega) ?_
  by_cases e : z.cps.size = 0
  · rw [if_pos e] at q1
    have e2 : ((z.length : Int) != 0) = false := by
      have : z.length = 0 := e
      rw [this]; rfl
    rw [e2]
    exact hb pins _ σ H1 Q I2 q1
  · rw [if_neg e] at q1
    have e2 : ((z.length : Int) != 0) = true := by
      have h0 : z.length ≠ 0 := e
      simpa using h0
    rw [e2]
    exact ⟨.str z, H1, I2, ⟨t, rfl⟩, q1⟩
end L2
namespace GP
open PySem L2 GwM
abbrev st (l : List Nat) : Str := ⟨l.toArray⟩
theorem st_snoc (l : List Nat) (a : Nat) : st l ++ (⟨#[a]⟩ : Str) = st (l ++ [a]) := strExt (Array.toList_inj.mp (by rw [strApp]))
theorem st_nil (l : List Nat) : st l ++ (⟨#[]⟩ : Str) = st l := strExt (Array.toList_inj.mp (by rw [strApp]; simp))
theorem EqD.strD {K : PySem.W.Frag} {H : Hp} {p q : Addr} {rs : List Str} {d : Nat} (hp : SqT K H p (rs.map V.str)) (hq : SqT K H q (rs.map V.str)) (hl : rs.length ≤ 100) : EqD K H (d + 1) (.ref p) (.ref q) := by
  refine .inr ⟨p, q, _, _, rfl, rfl, hp, hq, rfl, by rw [List.length_map]; exact hl, fun i x y hx hy => ?_⟩
  rw [hx] at hy
  cases hy
  rw [List.getElem?_map] at hx
  cases e : rs[i]? with
  | none => rw [e] at hx; cases hx
  | some r => rw [e] at hx; cases hx; exact .flat (.inl ⟨r, rfl, rfl⟩)
theorem EqD.tell {K : PySem.W.Frag} {H : Hp} {p q : Addr} {f : Bool} {rs : List Str} {ys : List V} (h : Tell f rs ys) (hp : SqT K H p ys) (hq : SqT K H q ys) : EqD K H 2 (.ref p) (.ref q) := by
  cases h with
  | two _ => exact EqD.two hp hq (.flat (.inl ⟨_, rfl, rfl⟩)) (.flat (.inr ⟨_, rfl, rfl⟩))
  | text _ _ => exact EqD.two hp hq (.flat (.inl ⟨_, rfl, rfl⟩)) (.flat (.inr ⟨_, rfl, rfl⟩))
  | block _ _ _ => exact EqD.two hp hq (.flat (.inl ⟨_, rfl, rfl⟩)) (.flat (.inr ⟨_, rfl, rfl⟩))
theorem RsOk.good {rs : List Str} {n w : Nat} (h : RsOk rs n w) (hn : 0 < n) : (∀ r ∈ rs, gdB rs r = true) ∧ colsB rs = true := by
  refine ⟨fun r hr => gd_of (by rw [h.w hn]; exact h.wid r hr) (th_ok (h.ok r hr)), ?_⟩
  have hb := h.block hn
  unfold blockB at hb
  rw [Bool.and_eq_true, Bool.and_eq_true] at hb
  exact hb.2.2
theorem RsOk.lns {rs : List Str} {n w : Nat} (h : RsOk rs n w) (hn : 0 < n) (h1 : n ≤ 100) (h2 : w ≤ 1000) : Lns rs := by
  have hl := h.len
  refine ⟨fun z => by rw [z] at hl; have : 0 = n := hl; omega, fun r hr hc => ?_, ⟨by omega, fun r hr => by rw [h.wid r hr]; exact h2⟩⟩
  rcases h.ok r hr 10 hc with z | z
  · cases z
  · exact absurd z (by decide)
def spLayW (K : PySem.W.Frag) : Sp := fun vs H Q _ => ∃ (s t : Addr) (ns : List Int) (k : Int) (sg : Str), vs = [.ref s, .ref t, .str sg] ∧ Ctr K H s t ns k ∧ k ≤ 80000 ∧ 0 < sg.cps.size ∧ sg.cps.size ≤ 12 ∧ (∀ c ∈ sg.cps.toList, isSignN c = true) ∧
  ∀ (k' : Int) (H' : Hp), Same (Wo t H) (Wo t H') → H' t = some (.lst [.int k']) → k ≤ k' → k' ≤ k + 50 → Q (.bl true) H'
def spOne67 (K : PySem.W.Frag) : Sp := fun vs H Q _ => ∃ (s t : Addr) (ns : List Int) (k : Int), vs = [.ref s, .ref t] ∧ Ctr K H s t ns k ∧ k ≤ 70000 ∧
  ∀ (k' : Int) (H' : Hp), Same (Wo t H) (Wo t H') → H' t = some (.lst [.int k']) → k ≤ k' → k' ≤ k + 2000 → Q (.bl true) H'
end GP
namespace L2
theorem ifZ {n : Nat} {A B : Prop} (h : n = 0) (q : A) : if n = 0 then A else B := by rw [if_pos h]; exact q
theorem ifP {n : Nat} {A B : Prop} (h : ¬ n = 0) (q : B) : if n = 0 then A else B := by rw [if_neg h]; exact q
end L2

set_option Elab.async false
set_option linter.all false
set_option maxRecDepth 100000
set_option maxHeartbeats 4000000
namespace G67
open PySem L2 GwM GP
/-! ### the text -/
def top (i : Nat) : Stmt := PySem.Challenge.pw_gapweave_k67_blocks_written.main.body.getD i (.Pass ⟨0, 0, 0, 0⟩)
abbrev s_NoText___init__ : Stmt := inClass (top 8) 0
theorem sc_NoText___init__ : FnScope ["self", "line"] ["self", "line"] (defScope s_NoText___init__) := ⟨rfl, rfl, rfl, by decide +kernel, rfl, by decide +kernel, by decide +kernel⟩
abbrev s_is_sign : Stmt := top 13
theorem sc_is_sign : FnScope ["sign", "number"] ["sign"] (defScope s_is_sign) := ⟨rfl, rfl, rfl, by decide +kernel, rfl, by decide +kernel, by decide +kernel⟩
abbrev s_are_signs : Stmt := top 14
theorem sc_are_signs : FnScope ["text"] ["text"] (defScope s_are_signs) := ⟨rfl, rfl, rfl, by decide +kernel, rfl, by decide +kernel, by decide +kernel⟩
abbrev s_check_place : Stmt := top 17
theorem sc_check_place : FnScope ["first", "second", "place"] ["first", "second", "place"] (defScope s_check_place) := ⟨rfl, rfl, rfl, by decide +kernel, rfl, by decide +kernel, by decide +kernel⟩
abbrev s_place_behind : Stmt := top 18
theorem sc_place_behind : FnScope ["place", "move", "step"] ["place", "move"] (defScope s_place_behind) := ⟨rfl, rfl, rfl, by decide +kernel, rfl, by decide +kernel, by decide +kernel⟩
abbrev s_places_of : Stmt := top 19
theorem sc_places_of : FnScope ["first", "second", "begin", "moves", "place", "places", "move"] ["first", "second", "begin", "moves"] (defScope s_places_of) := ⟨rfl, rfl, rfl, by decide +kernel, rfl, by decide +kernel, by decide +kernel⟩
abbrev s_may_end : Stmt := top 20
theorem sc_may_end : FnScope ["manner", "first", "second", "place"] ["manner", "first", "second", "place"] (defScope s_may_end) := ⟨rfl, rfl, rfl, by decide +kernel, rfl, by decide +kernel, by decide +kernel⟩
abbrev s_things_at : Stmt := top 23
theorem sc_things_at : FnScope ["texts", "place"] ["texts", "place"] (defScope s_things_at) := ⟨rfl, rfl, rfl, by decide +kernel, rfl, by decide +kernel, by decide +kernel⟩
abbrev s_turned : Stmt := top 24
theorem sc_turned : FnScope ["texts", "many"] ["texts", "many"] (defScope s_turned) := ⟨rfl, rfl, rfl, by decide +kernel, rfl, by decide +kernel, by decide +kernel⟩
abbrev s_columns_of : Stmt := top 25
theorem sc_columns_of : FnScope ["rows"] ["rows"] (defScope s_columns_of) := ⟨rfl, rfl, rfl, by decide +kernel, rfl, by decide +kernel, by decide +kernel⟩
abbrev s_laid_columns : Stmt := top 26
theorem sc_laid_columns : FnScope ["ones", "others", "one_gaps", "other_gaps", "moves", "columns", "place", "move", "step", "left", "right"] ["ones", "others", "one_gaps", "other_gaps", "moves"] (defScope s_laid_columns) := ⟨rfl, rfl, rfl, by decide +kernel, rfl, by decide +kernel, by decide +kernel⟩
abbrev s_is_gaps : Stmt := top 27
theorem sc_is_gaps : FnScope ["column"] ["column"] (defScope s_is_gaps) := ⟨rfl, rfl, rfl, by decide +kernel, rfl, by decide +kernel, by decide +kernel⟩
abbrev s_signs_of : Stmt := top 28
theorem sc_signs_of : FnScope ["things"] ["things"] (defScope s_signs_of) := ⟨rfl, rfl, rfl, by decide +kernel, rfl, by decide +kernel, by decide +kernel⟩
abbrev s_check_lengths : Stmt := top 29
theorem sc_check_lengths : FnScope ["rows", "row"] ["rows"] (defScope s_check_lengths) := ⟨rfl, rfl, rfl, by decide +kernel, rfl, by decide +kernel, by decide +kernel⟩
abbrev s_are_things : Stmt := top 30
theorem sc_are_things : FnScope ["row"] ["row"] (defScope s_are_things) := ⟨rfl, rfl, rfl, by decide +kernel, rfl, by decide +kernel, by decide +kernel⟩
abbrev s_check_things : Stmt := top 31
theorem sc_check_things : FnScope ["rows", "row"] ["rows"] (defScope s_check_things) := ⟨rfl, rfl, rfl, by decide +kernel, rfl, by decide +kernel, by decide +kernel⟩
abbrev s_check_columns : Stmt := top 32
theorem sc_check_columns : FnScope ["rows", "column"] ["rows"] (defScope s_check_columns) := ⟨rfl, rfl, rfl, by decide +kernel, rfl, by decide +kernel, by decide +kernel⟩
abbrev s_Block___init__ : Stmt := inClass (top 33) 0
theorem sc_Block___init__ : FnScope ["self", "rows"] ["self", "rows"] (defScope s_Block___init__) := ⟨rfl, rfl, rfl, by decide +kernel, rfl, by decide +kernel, by decide +kernel⟩
abbrev s_check_row : Stmt := top 34
theorem sc_check_row : FnScope ["block", "row"] ["block", "row"] (defScope s_check_row) := ⟨rfl, rfl, rfl, by decide +kernel, rfl, by decide +kernel, by decide +kernel⟩
abbrev s_bare : Stmt := top 35
theorem sc_bare : FnScope ["block", "row"] ["block", "row"] (defScope s_bare) := ⟨rfl, rfl, rfl, by decide +kernel, rfl, by decide +kernel, by decide +kernel⟩
abbrev s_written_block : Stmt := top 38
theorem sc_written_block : FnScope ["block"] ["block"] (defScope s_written_block) := ⟨rfl, rfl, rfl, by decide +kernel, rfl, by decide +kernel, by decide +kernel⟩
abbrev s_written_laying : Stmt := top 39
theorem sc_written_laying : FnScope ["first", "second", "moves", "end", "columns"] ["first", "second", "moves"] (defScope s_written_laying) := ⟨rfl, rfl, rfl, by decide +kernel, rfl, by decide +kernel, by decide +kernel⟩
abbrev s_read_block : Stmt := top 40
theorem sc_read_block : FnScope ["text", "rows", "line", "row"] ["text"] (defScope s_read_block) := ⟨rfl, rfl, rfl, by decide +kernel, rfl, by decide +kernel, by decide +kernel⟩
abbrev s_check_two_rows : Stmt := top 41
theorem sc_check_two_rows : FnScope ["text"] ["text"] (defScope s_check_two_rows) := ⟨rfl, rfl, rfl, by decide +kernel, rfl, by decide +kernel, by decide +kernel⟩
abbrev s_move_of : Stmt := top 42
theorem sc_move_of : FnScope ["column"] ["column"] (defScope s_move_of) := ⟨rfl, rfl, rfl, by decide +kernel, rfl, by decide +kernel, by decide +kernel⟩
abbrev s_read_laying : Stmt := top 43
theorem sc_read_laying : FnScope ["text", "block", "moves"] ["text"] (defScope s_read_laying) := ⟨rfl, rfl, rfl, by decide +kernel, rfl, by decide +kernel, by decide +kernel⟩
abbrev s_law_next : Stmt := top 45
theorem sc_law_next : FnScope ["_law_script", "_law_at", "_law_cell", "_law_m"] ["_law_script", "_law_at"] (defScope s_law_next) := ⟨rfl, rfl, rfl, by decide +kernel, rfl, by decide +kernel, by decide +kernel⟩
abbrev s_law_signs : Stmt := top 46
theorem sc_law_signs : FnScope ["_law_script", "_law_at", "_law_many", "_law_some", "_law_m", "_law_signs_here", "_law_k", "_law_made", "_law_sign"] ["_law_script", "_law_at", "_law_many"] (defScope s_law_signs) := ⟨rfl, rfl, rfl, by decide +kernel, rfl, by decide +kernel, by decide +kernel⟩
abbrev s_law_same : Stmt := top 48
theorem sc_law_same : FnScope ["_law_found", "_law_due"] ["_law_found", "_law_due"] (defScope s_law_same) := ⟨rfl, rfl, rfl, by decide +kernel, rfl, by decide +kernel, by decide +kernel⟩
abbrev s_law_columns : Stmt := top 49
theorem sc_law_columns : FnScope ["_law_script", "_law_at", "_law_signs_here", "_law_high", "_law_wide", "_law_rows", "_law_k", "_law_j", "_law_full", "_law_m"] ["_law_script", "_law_at", "_law_signs_here", "_law_high", "_law_wide"] (defScope s_law_columns) := ⟨rfl, rfl, rfl, by decide +kernel, rfl, by decide +kernel, by decide +kernel⟩
abbrev s_law_told : Stmt := top 50
theorem sc_law_told : FnScope ["_law_text", "_law_laying_here", "_law_told_here", "e"] ["_law_text", "_law_laying_here"] (defScope s_law_told) := ⟨rfl, rfl, rfl, by decide +kernel, rfl, by decide +kernel, by decide +kernel⟩
abbrev s_law_spoilt : Stmt := top 51
theorem sc_law_spoilt : FnScope ["_law_script", "_law_at", "_law_rows", "_law_m", "_law_k", "_law_made", "_law_spot", "_law_due", "_law_j"] ["_law_script", "_law_at", "_law_rows"] (defScope s_law_spoilt) := ⟨rfl, rfl, rfl, by decide +kernel, rfl, by decide +kernel, by decide +kernel⟩
abbrev s_law_laying : Stmt := top 52
theorem sc_law_laying : FnScope ["_law_script", "_law_at", "_law_signs_here", "_law_moves", "_law_rows", "_law_k", "_law_m", "_law_one_here", "_law_other", "_law_text", "_law_found", "_law_spoilt_here", "_law_due", "_law_strange"] ["_law_script", "_law_at", "_law_signs_here"] (defScope s_law_laying) := ⟨rfl, rfl, rfl, by decide +kernel, rfl, by decide +kernel, by decide +kernel⟩
abbrev s_law_one : Stmt := top 53
theorem sc_law_one : FnScope ["_law_script", "_law_at", "_law_signs_here", "_law_high", "_law_rows", "_law_text", "_law_found", "_law_spoilt_here", "_law_due", "_law_back"] ["_law_script", "_law_at"] (defScope s_law_one) := ⟨rfl, rfl, rfl, by decide +kernel, rfl, by decide +kernel, by decide +kernel⟩
abbrev s_law : Stmt := top 54
theorem sc_law : FnScope ["_law_script", "_law_at", "_law_turn"] ["_law_script"] (defScope s_law) := ⟨rfl, rfl, rfl, by decide +kernel, rfl, by decide +kernel, by decide +kernel⟩
structure Pm where
  t_FIRST_SIGN : Tok
  t_LAST_SIGN : Tok
  a_NO_SIGNS : Addr
  a_STEPS : Addr
  v_STEPS0 : Addr
  v_STEPS1 : Addr
  v_STEPS2 : Addr
  t_GAP : Tok
  t_LINE_END : Tok
  C_Block : Addr
  C_WeaveError : Addr
  C_NoBlock : Addr
  C_NoText : Addr
  C_NoRow : Addr
  C_NoPrices : Addr
  C_NoSign : Addr
  C_NoNote : Addr
structure Txt (K : PySem.W.Frag) (mg : Str → Option Value) (p : Pm) (w : World) : Prop where
  z_len : mg "len" = none
  z_ord : mg "ord" = none
  z_all : mg "all" = none
  z_any : mg "any" = none
  z_isinstance : mg "isinstance" = none
  z_str : mg "str" = none
  z_list : mg "list" = none
  z_tuple : mg "tuple" = none
  z_range : mg "range" = none
  z_enumerate : mg "enumerate" = none
  z_zip : mg "zip" = none
  z_int : mg "int" = none
  z_bool : mg "bool" = none
  z_dict : mg "dict" = none
  z_min : mg "min" = none
  z_max : mg "max" = none
  z_ValueError : mg "ValueError" = none
  g_FIRST_SIGN : mg "FIRST_SIGN" = some (.int 32 p.t_FIRST_SIGN)
  g_LAST_SIGN : mg "LAST_SIGN" = some (.int 126 p.t_LAST_SIGN)
  g_NO_SIGNS : mg "NO_SIGNS" = some (.ref p.a_NO_SIGNS)
  q_NO_SIGNS : ∀ H : Hp, SqT K H p.a_NO_SIGNS [.int 34, .int 37, .int 45]
  g_STEPS : mg "STEPS" = some (.ref p.a_STEPS)
  kd_STEPS : ∀ P : Program, KDict P w K p.a_STEPS [(.inr (Str.ofString "p"), .ref p.v_STEPS0), (.inr (Str.ofString "a"), .ref p.v_STEPS1), (.inr (Str.ofString "b"), .ref p.v_STEPS2)]
  q_STEPS0 : ∀ H : Hp, SqT K H p.v_STEPS0 [.int 1, .int 1]
  q_STEPS1 : ∀ H : Hp, SqT K H p.v_STEPS1 [.int 1, .int 0]
  q_STEPS2 : ∀ H : Hp, SqT K H p.v_STEPS2 [.int 0, .int 1]
  g_GAP : mg "GAP" = some (.str (Str.ofString "-") p.t_GAP)
  g_LINE_END : mg "LINE_END" = some (.str (Str.ofString "\n") p.t_LINE_END)
  mg_Block : mg "Block" = some (.ref p.C_Block)
  cl_Block : Cls K p.C_Block
  n_Block_rows : NoAttr K p.C_Block "rows"
  ii_Block : PySem.W.isIn K (.ref p.C_Block) p.C_Block = true
  mg_WeaveError : mg "WeaveError" = some (.ref p.C_WeaveError)
  xb_WeaveError : XB K p.C_WeaveError
  mg_NoBlock : mg "NoBlock" = some (.ref p.C_NoBlock)
  xc_NoBlock : XClsE K p.C_NoBlock
  xt_NoBlock : XTy K p.C_NoBlock
  mg_NoText : mg "NoText" = some (.ref p.C_NoText)
  xt_NoText : XTy K p.C_NoText
  mg_NoRow : mg "NoRow" = some (.ref p.C_NoRow)
  xc_NoRow : XClsE K p.C_NoRow
  mg_NoPrices : mg "NoPrices" = some (.ref p.C_NoPrices)
  mg_NoSign : mg "NoSign" = some (.ref p.C_NoSign)
  mg_NoNote : mg "NoNote" = some (.ref p.C_NoNote)
  xs_NoText : XSt K p.C_NoText
  xk_NoText : ∃ f, XClsI K p.C_NoText f
  n_NoText_line : NoAttr K p.C_NoText "line"
  xw_WeaveError : XBase K p.C_WeaveError
  ks_NoBlock_WeaveError : PySem.W.subIn K (.ref p.C_NoBlock) (.ref p.C_WeaveError) = some true
  ks_NoText_WeaveError : PySem.W.subIn K (.ref p.C_NoText) (.ref p.C_WeaveError) = some true
  ki_NoBlock_NoPrices : PySem.W.kitOne K (.ref p.C_NoBlock) (.ref p.C_NoPrices) = some false
  ki_NoBlock_NoSign : PySem.W.kitOne K (.ref p.C_NoBlock) (.ref p.C_NoSign) = some false
  ki_NoBlock_NoNote : PySem.W.kitOne K (.ref p.C_NoBlock) (.ref p.C_NoNote) = some false
  ki_NoText_NoPrices : PySem.W.kitOne K (.ref p.C_NoText) (.ref p.C_NoPrices) = some false
  ki_NoText_NoSign : PySem.W.kitOne K (.ref p.C_NoText) (.ref p.C_NoSign) = some false
  ki_NoText_NoNote : PySem.W.kitOne K (.ref p.C_NoText) (.ref p.C_NoNote) = some false
  ki_NoBlock_NoBlock : PySem.W.kitOne K (.ref p.C_NoBlock) (.ref p.C_NoBlock) = some true
  ki_NoBlock_NoText : PySem.W.kitOne K (.ref p.C_NoBlock) (.ref p.C_NoText) = some false
  ki_NoText_NoText : PySem.W.kitOne K (.ref p.C_NoText) (.ref p.C_NoText) = some true
  ki_NoText_NoBlock : PySem.W.kitOne K (.ref p.C_NoText) (.ref p.C_NoBlock) = some false
  ki_NoBlock_ValueError : PySem.W.kitOne K (.ref p.C_NoBlock) (.type "ValueError") = some true
  ki_NoText_ValueError : PySem.W.kitOne K (.ref p.C_NoText) (.type "ValueError") = some true
theorem bo_len : bootBuiltins "len" = some (.builtin "len") := by decide +kernel
theorem bo_ord : bootBuiltins "ord" = some (.builtin "ord") := by decide +kernel
theorem bo_all : bootBuiltins "all" = some (.builtin "all") := by decide +kernel
theorem bo_isinstance : bootBuiltins "isinstance" = some (.builtin "isinstance") := by decide +kernel
theorem bo_str : bootBuiltins "str" = some (.type "str") := by decide +kernel
theorem bo_list : bootBuiltins "list" = some (.type "list") := by decide +kernel
theorem bo_tuple : bootBuiltins "tuple" = some (.type "tuple") := by decide +kernel
theorem bo_int : bootBuiltins "int" = some (.type "int") := by decide +kernel
theorem bo_bool : bootBuiltins "bool" = some (.type "bool") := by decide +kernel
theorem bo_dict : bootBuiltins "dict" = some (.type "dict") := by decide +kernel
theorem bo_min : bootBuiltins "min" = some (.builtin "min") := by decide +kernel
theorem bo_max : bootBuiltins "max" = some (.builtin "max") := by decide +kernel
theorem bo_ValueError : bootBuiltins "ValueError" = some (.type "ValueError") := by decide +kernel
section
variable {P : Program} {w : World} {K : PySem.W.Frag} {mg : Str → Option Value} {base : Heap}
end
section
variable {P : Program} {w : World} {K : PySem.W.Frag} {mg : Str → Option Value} {base : Heap}
theorem ok_is_sign {f_is_sign : Addr} {fd_is_sign : FuncData} {p : Pm} (T : Txt K mg p w) (D_is_sign : Dn K mg "is_sign" s_is_sign ["sign"] f_is_sign fd_is_sign)  : FnOk P w K mg base CX0 1 f_is_sign fd_is_sign ["sign"] spIsSign := by
  refine D_is_sign.fn.ok sc_is_sign (fun vs H Q E h => ?_) (fun cdv A outer s H vs Q E hr h => ?_)
  · obtain ⟨c, rfl, _⟩ := h
    rfl
  · obtain ⟨c, rfl, k⟩ := h
    refine ⟨_, (pss_cons (ps_set (i := 1) sc_is_sign.nd rfl (Or.inl rfl) (pe_callB (call_ord) rfl T.z_ord bo_ord (pa_cons (pv 0) pa_nil)))
      (pss_one (ps_ret (pe_and (pe_chain op_le op_le (pe_glob (v := .int 32) rfl T.g_FIRST_SIGN ⟨_, rfl⟩) (pv 1) (pe_glob (v := .int 126) rfl T.g_LAST_SIGN ⟨_, rfl⟩)) (pe_one (pe_cmpR op_notIn_seq (pv 1) (pe_glob (v := .ref p.a_NO_SIGNS) rfl T.g_NO_SIGNS rfl) (by with_unfolding_all rfl))))))), ?_⟩
    refine ⟨_, rfl, _, rfl, rfl, ?_⟩
    have k' : Q (.bl ((decide ((32 : Int) ≤ (c : Int)) && decide ((c : Int) ≤ 126)) && !inV (.int c) [.int 34, .int 37, .int 45])) H := k
    refine ⟨_, rfl, _, _, rfl, rfl, _, rfl, ?_⟩
    refine ite_dec (fun h1 => ?_) (fun h1 => ?_)
    · refine ⟨_, _, rfl, rfl, _, rfl, ?_⟩
      have h1' : (32 : Int) ≤ (c : Int) := h1
      rw [decide_eq_true h1', Bool.true_and] at k'
      refine ite_dec (fun h2 => ?_) (fun h2 => ?_)
      · have h2' : (c : Int) ≤ 126 := h2
        rw [decide_eq_true h2', Bool.true_and] at k'
        exact ⟨_, rfl, _, _, rfl, .inr (T.q_NO_SIGNS _), rfl, rfl, k'⟩
      · have h2' : ¬ (c : Int) ≤ 126 := h2
        rw [decide_eq_false h2', Bool.false_and] at k'
        exact k'
    · have h1' : ¬ (32 : Int) ≤ (c : Int) := h1
      rw [decide_eq_false h1', Bool.false_and, Bool.false_and] at k'
      exact ⟨_, rfl, iteF k'⟩
theorem ok_are_signs {f_are_signs f_is_sign : Addr} {fd_are_signs fd_is_sign : FuncData} {p : Pm} (T : Txt K mg p w) (D_are_signs : Dn K mg "are_signs" s_are_signs ["text"] f_are_signs fd_are_signs) (D_is_sign : Dn K mg "is_sign" s_is_sign ["sign"] f_is_sign fd_is_sign) (G_is_sign : FnOk P w K mg base CX0 1 f_is_sign fd_is_sign ["sign"] spIsSign) : FnOk P w K mg base CX0 2 f_are_signs fd_are_signs ["text"] spAreSigns := by
  refine D_are_signs.fn.ok sc_are_signs (fun vs H Q E h => ?_) (fun cdv A outer s H vs Q E hr h => ?_)
  · obtain ⟨x, rfl, _⟩ := h
    rfl
  · obtain ⟨x, rfl, hx, k⟩ := h
    refine ⟨_, (pss_one (ps_ret (pe_callB (call_all_bl rfl) rfl T.z_all bo_all (pa_cons (pe_comp (N := ["sign"]) rfl (fun _ => ⟨[], CompSc.plain (by decide +kernel) rfl (by decide +kernel) (by decide +kernel)⟩) (pi_txt (pv 0)) (fun _ _ _ _ _ _ _ => (pg_name (i := 0) (show (["sign"] : List Str).Nodup by decide +kernel) rfl (Or.inl rfl))) (fun _ _ _ _ _ _ _ => (pe_call G_is_sign (hr.mono (by decide)) rfl D_is_sign.m D_is_sign.fn.kp D_is_sign.b .nil pass0 (pa_cons (pv 0) pa_nil)))) pa_nil)))), ?_⟩
    refine ⟨_, rfl, x, rfl, fun l hl => ?_⟩
    refine ⟨fun i m ys H2 => m = x.cps.size - i ∧ i ≤ x.cps.size ∧ Same H H2 ∧ H2 l = some (.lst ys) ∧ ys = ((x.cps.toList.take i).map isSignN).map V.bl, ⟨x.cps.size, rfl, Nat.zero_le _, Same.upd hl, upd_same, rfl⟩, ?_⟩
    rintro i m ys H2 ⟨rfl, hi, s2, hl2, rfl⟩
    by_cases hlt : i < x.cps.size
    · refine .inr ⟨hlt, ?_⟩
      rintro y H3 ⟨rfl, c, ec, rfl⟩
      refine ⟨Kp.rep _ _, ?_⟩
      refine ⟨_, rfl, c, rfl, ?_⟩
      refine ⟨hl2, ?_, x.cps.size - (i + 1), by omega, rfl, hlt, Same.at s2 hl, upd_same, ?_⟩
      · rw [List.length_map, List.length_map, List.length_take]
        exact Nat.lt_of_le_of_lt (show min i x.cps.toList.length ≤ 1000 by omega) (by decide)
      · rw [take_snoc (x := c) (by rw [Array.getElem?_toList]; exact ec), List.map_append, List.map_append]
        rfl
    · have ei : i = x.cps.size := by omega
      subst ei
      refine .inl ⟨Nat.le_refl _, ?_⟩
      rw [List.take_of_length_le (by rw [Array.length_toList]; exact Nat.le_refl _)] at hl2
      refine ⟨l, _, rfl, SqL.of hl2, ?_⟩
      have e : (x.cps.toList.map isSignN).all id = x.cps.toList.all isSignN := by rw [List.all_map]; rfl
      rw [e]
      exact k H2 s2
end
section
variable {P : Program} {w : World} {K : PySem.W.Frag} {mg : Str → Option Value} {base : Heap}
end
section
variable {P : Program} {w : World} {K : PySem.W.Frag} {mg : Str → Option Value} {base : Heap}
end
section
variable {P : Program} {w : World} {K : PySem.W.Frag} {mg : Str → Option Value} {base : Heap}
theorem ok_law_next {f_law_next : Addr} {fd_law_next : FuncData} {p : Pm} (T : Txt K mg p w) (D_law_next : Dn K mg "_law_next" s_law_next ["_law_script", "_law_at"] f_law_next fd_law_next)  : FnOk P w K mg base CX0 1 f_law_next fd_law_next ["_law_script", "_law_at"] (spNext K) := by
  refine D_law_next.fn.ok sc_law_next (fun vs H Q E h => ?_) (fun cdv A outer s H vs Q E hr h => ?_)
  · obtain ⟨s, t, ns, k, rfl, _⟩ := h
    rfl
  · obtain ⟨s, t, ns, k, rfl, hC, hk2, kk⟩ := h
    have hS := hC.scr
    have hS2 := hC.scr'
    have ht := hC.at_
    have hk := hC.k0
    refine ⟨_, (pss_cons (ps_asg (pe_op op_add (pe_ix ix_list (pv 1) pe_int (fun _ _ => rfl)) pe_int) (pg_sub (pv 1) pe_int set_list))
      (pss_cons (ps_set (i := 2) sc_law_next.nd rfl (Or.inl rfl) pe_int)
      (pss_cons (ps_if (pt_cmpR op_gt (pe_callB (call_len) rfl T.z_len bo_len (pa_cons (pv 0) pa_nil)) pe_int (nomark _)) (pss_one (ps_set (i := 2) sc_law_next.nd rfl (Or.inl rfl) (pe_ix ix_list (pv 0) (pe_op op_mod (pe_ix ix_list (pv 1) pe_int (fun _ _ => rfl)) (pe_callB (call_len) rfl T.z_len bo_len (pa_cons (pv 0) pa_nil))) (fun _ _ => rfl)))) pss_nil)
      (pss_cons (ps_set (i := 3) sc_law_next.nd rfl (Or.inl rfl) (pe_op op_mod (pe_op op_mul (pe_op op_add (pe_op op_add (pe_op op_mod (pv 2) pe_int) (pe_op op_mul (pe_op op_mul (pe_ix ix_list (pv 1) pe_int (fun _ _ => rfl)) (pe_ix ix_list (pv 1) pe_int (fun _ _ => rfl))) pe_int)) pe_int) pe_int) pe_int))
      (pss_one (ps_ret (pe_op op_mod (pe_op op_mul (pv 3) (pv 3)) pe_int))))))), ?_⟩
    -- _law_at[0] = _law_at[0] + 1
    refine ⟨_, rfl, t, _, _, _, rfl, rfl, SqL.of ht, rfl, _, _, rfl, rfl, _, rfl, t, _, _, 0, rfl, rfl, ht, rfl, ?_⟩
    -- _law_cell = 0; if len(..) > 0
    have hq : SqL K (upd H t (.lst [.int (k + 1)])) s (ns.map V.int) := hS2 _
    refine ⟨_, rfl, _, _, rfl, .inl ⟨_, hq, rfl⟩, _, _, rfl, rfl, _, rfl, ?_⟩
    have fin : ∀ c : Int, ∀ m1 : Int, m1 = (c % 2147483647 + (k + 1) * (k + 1) * 7919 + 11) * 48271 % 2147483647 → Q (.int (m1 * m1 % 1999999973)) (upd H t (.lst [.int (k + 1)])) := fun c m1 _ =>
      kk _ (Int.emod_nonneg _ (by decide)) (Int.emod_lt_of_pos _ (by decide))
    have rest : ∀ c : Int, Q (.int (((c % 2147483647 + (k + 1) * (k + 1) * 7919 + 11) * 48271 % 2147483647) * ((c % 2147483647 + (k + 1) * (k + 1) * 7919 + 11) * 48271 % 2147483647) % 1999999973)) (upd H t (.lst [.int (k + 1)])) := fun c => fin c _ rfl
    have hAt : SqL K (upd H t (.lst [.int (k + 1)])) t [.int (k + 1)] := SqL.of upd_same
    refine ite_dec (fun h0 => ?_) (fun h0 => ?_)
    · have hn : 0 < ns.length := by rw [List.length_map] at h0; omega
      have i1 := Int.emod_nonneg (k + 1) (show ((ns.length : Nat) : Int) ≠ 0 by omega)
      have i2 := Int.emod_lt_of_pos (k + 1) (show (0 : Int) < ((ns.length : Nat) : Int) by omega)
      obtain ⟨j, hj⟩ : ∃ j : Nat, (k + 1) % ((ns.length : Nat) : Int) = (j : Int) := ⟨_, (Int.toNat_of_nonneg i1).symm⟩
      have hjl : j < ns.length := by omega
      refine ⟨_, rfl, _, rfl, t, _, _, _, rfl, rfl, hAt, rfl, _, rfl, _, _, rfl, .inl ⟨_, hq, rfl⟩, _, _, rfl, rfl, (by show (0 : Int) < (((ns.map V.int).length : Nat) : Int); rw [List.length_map]; omega), ?_⟩
      refine ⟨s, _, _, .int ns[j], rfl, rfl, hq, ?_, ?_⟩
      · rw [List.length_map, hj]
        exact atI_nat (by rw [List.getElem?_map, List.getElem?_eq_getElem hjl]; rfl)
      · refine ⟨_, rfl, _, _, rfl, rfl, (by show (0 : Int) < _; decide), ?_⟩
        refine ⟨_, rfl, t, _, _, _, rfl, rfl, hAt, rfl, _, rfl, t, _, _, _, rfl, rfl, hAt, rfl, _, _, rfl, rfl, .inl ⟨by omega, by omega⟩, _, _, rfl, rfl, .inr ⟨by decide, by decide⟩, _, _, rfl, rfl, _, _, rfl, rfl, _, _, rfl, rfl, .inr ⟨by decide, by decide⟩, _, _, rfl, rfl, (by show (0 : Int) < _; decide), ?_⟩
        have m0 := Int.emod_nonneg ((ns[j] % 2147483647 + (k + 1) * (k + 1) * 7919 + 11) * 48271) (show (2147483647 : Int) ≠ 0 by decide)
        have m1 := Int.emod_lt_of_pos ((ns[j] % 2147483647 + (k + 1) * (k + 1) * 7919 + 11) * 48271) (show (0 : Int) < 2147483647 by decide)
        exact ⟨_, rfl, _, rfl, _, _, rfl, rfl, .inl ⟨by omega, by omega⟩, _, _, rfl, rfl, (by show (0 : Int) < _; decide), rest _⟩
    · refine ⟨_, rfl, _, _, rfl, rfl, (by show (0 : Int) < _; decide), ?_⟩
      refine ⟨_, rfl, t, _, _, _, rfl, rfl, hAt, rfl, _, rfl, t, _, _, _, rfl, rfl, hAt, rfl, _, _, rfl, rfl, .inl ⟨by omega, by omega⟩, _, _, rfl, rfl, .inr ⟨by decide, by decide⟩, _, _, rfl, rfl, _, _, rfl, rfl, _, _, rfl, rfl, .inr ⟨by decide, by decide⟩, _, _, rfl, rfl, (by show (0 : Int) < _; decide), ?_⟩
      have m0 := Int.emod_nonneg (((0 : Int) % 2147483647 + (k + 1) * (k + 1) * 7919 + 11) * 48271) (show (2147483647 : Int) ≠ 0 by decide)
      have m1 := Int.emod_lt_of_pos (((0 : Int) % 2147483647 + (k + 1) * (k + 1) * 7919 + 11) * 48271) (show (0 : Int) < 2147483647 by decide)
      exact ⟨_, rfl, _, rfl, _, _, rfl, rfl, .inl ⟨by omega, by omega⟩, _, _, rfl, rfl, (by show (0 : Int) < _; decide), rest _⟩
end
section
variable {P : Program} {w : World} {K : PySem.W.Frag} {mg : Str → Option Value} {base : Heap}
theorem ok_law_signs {f_law_signs f_law_next : Addr} {fd_law_signs fd_law_next : FuncData} {p : Pm} (T : Txt K mg p w) (D_law_signs : Dn K mg "_law_signs" s_law_signs ["_law_script", "_law_at", "_law_many"] f_law_signs fd_law_signs) (D_law_next : Dn K mg "_law_next" s_law_next ["_law_script", "_law_at"] f_law_next fd_law_next) (G_law_next : FnOk P w K mg base CX0 1 f_law_next fd_law_next ["_law_script", "_law_at"] (spNext K)) : FnOk P w K mg base CX0 2 f_law_signs fd_law_signs ["_law_script", "_law_at", "_law_many"] (spSigns K) := by
  refine D_law_signs.fn.ok sc_law_signs (fun vs H Q E h => ?_) (fun cdv A outer s H vs Q E hr h => ?_)
  · obtain ⟨s, t, ns, k, n, rfl, _⟩ := h
    rfl
  · obtain ⟨s, t, ns, k, n, rfl, hC, hk, hn1, hn2, kk⟩ := h
    refine ⟨_, (pss_cons (ps_set (i := 3) sc_law_signs.nd rfl (Or.inl rfl) pe_str)
      (pss_cons (ps_set (i := 3) sc_law_signs.nd rfl (Or.inl rfl) (pe_op op_add_str (pv 3) pe_str))
      (pss_cons (ps_set (i := 4) sc_law_signs.nd rfl (Or.inl rfl) (pe_call G_law_next (hr.mono (by decide)) rfl D_law_next.m D_law_next.fn.kp D_law_next.b .nil pass0 (pa_cons (pv 0) (pa_cons (pv 1) pa_nil))))
      (pss_cons (ps_set (i := 5) sc_law_signs.nd rfl (Or.inl rfl) pe_str)
      (pss_cons (ps_for PassesOwn.never rfl (pi_range1 rfl T.z_range (pa_cons (pv 2) pa_nil)) (pg_name (i := 6) sc_law_signs.nd rfl (Or.inl rfl)) (pss_one (ps_set (i := 5) sc_law_signs.nd rfl (Or.inl rfl) (pe_op op_add_str (pv 5) (pe_ix ix_str (pv 3) (pe_op op_mod (pe_op op_add (pv 4) (pe_op op_mul (pv 6) (pe_op op_add pe_int (pe_op op_mod (pe_op op_fdiv (pv 4) pe_int) pe_int)))) pe_int) (fun _ _ => rfl))))))
      (pss_cons (ps_set (i := 7) sc_law_signs.nd rfl (Or.inl rfl) pe_str)
      (pss_cons (ps_for PassesOwn.never rfl (pi_txt (pv 5)) (pg_name (i := 8) sc_law_signs.nd rfl (Or.inl rfl)) (pss_one (ps_if (pt_cmpR op_notIn_str (pv 8) (pv 7) (by with_unfolding_all rfl)) (pss_one (ps_set (i := 7) sc_law_signs.nd rfl (Or.inl rfl) (pe_op op_add_str (pv 7) (pv 8)))) pss_nil)))
      (pss_one (ps_ret (pv 7)))))))))), ?_⟩
    refine ⟨_, rfl, _, _, rfl, rfl, (by decide +kernel), ?_⟩
    refine ⟨_, rfl, _, rfl, s, t, ns, k, rfl, hC, hk, fun m hm hm2 => ?_⟩
    refine ⟨_, rfl, n, rfl, by omega, by omega, ?_⟩
    refine for_range (lo := 0) (n := n.toNat) (fun i σ H2 => H2 = upd H t (.lst [.int (k + 1)]) ∧ ∃ (S here : Str) (v6 : Option V), σ = [some (.ref s), some (.ref t), some (.int n), some (.str S), some (.int m), some (.str here), v6, none, none] ∧
      S.cps.size = 92 ∧ S.cps.all isSignN = true ∧ here.cps.size = i ∧ ∀ c ∈ here.cps.toList, isSignN c = true) ⟨rfl, _, _, _, rfl, (by kernel_rfl), (by kernel_rfl), (by kernel_rfl), fun c hc => (by cases hc)⟩ ?_ ?_
    · rintro i σ H2 hi ⟨rfl, S, here, v6, rfl, hS1, hS2, hh1, hh2⟩
      have i1 := Int.emod_nonneg (m + (0 + (i : Int)) * (1 + m / 92 % 91)) (show (92 : Int) ≠ 0 by decide)
      have i2 := Int.emod_lt_of_pos (m + (0 + (i : Int)) * (1 + m / 92 % 91)) (show (0 : Int) < 92 by decide)
      obtain ⟨j, hj⟩ : ∃ j : Nat, (m + (0 + (i : Int)) * (1 + m / 92 % 91)) % 92 = (j : Int) := ⟨_, (Int.toNat_of_nonneg i1).symm⟩
      have hjl : j < S.cps.toList.length := by rw [Array.length_toList]; omega
      refine ⟨_, rfl, _, rfl, _, rfl, _, rfl, _, rfl, _, _, rfl, rfl, ⟨by decide, by decide⟩, _, _, rfl, rfl, (by show (0 : Int) < _; decide), _, _, rfl, rfl, _, _, rfl, rfl, .inl ⟨by omega, by omega⟩, _, _, rfl, rfl, _, _, rfl, rfl, (by show (0 : Int) < _; decide), ?_⟩
      refine ⟨S, _, S.cps.toList[j], rfl, rfl, (by show S.cps.size ≤ _; rw [hS1]; decide), (by rw [hj]; exact atI_nat (List.getElem?_eq_getElem hjl)), ?_⟩
      refine ⟨_, _, rfl, rfl, (by show here.cps.size + 1 ≤ sizeLine; rw [hh1]; exact Nat.le_trans (show i + 1 ≤ 100 by omega) (by decide)), ?_⟩
      refine ⟨rfl, S, _, _, rfl, hS1, hS2, ?_, ?_⟩
      · show (here.cps ++ #[S.cps.toList[j]]).size = i + 1
        rw [Array.size_append, hh1]
        rfl
      · intro c hc
        have hc' : c ∈ here.cps.toList ++ [S.cps.toList[j]] := by
          have e : (here.cps ++ #[S.cps.toList[j]]).toList = here.cps.toList ++ [S.cps.toList[j]] := by simp
          rw [← e]; exact hc
        rcases List.mem_append.mp hc' with hc | hc
        · exact hh2 c hc
        · rw [List.mem_singleton.mp hc]
          have := Array.all_eq_true_iff_forall_mem.mp hS2 _ (Array.mem_toList_iff.mp (List.getElem_mem hjl))
          exact this
    · rintro σ H2 ⟨rfl, S, here, v6, rfl, hS1, hS2, hh1, hh2⟩
      refine ⟨_, rfl, here, rfl, for_txt (x := here) (fun i σ H2 => H2 = upd H t (.lst [.int (k + 1)]) ∧ ∃ (made : Str) (v8 : Option V), σ = [some (.ref s), some (.ref t), some (.int n), some (.str S), some (.int m), some (.str here), v6, some (.str made), v8] ∧
        made.cps.size ≤ i ∧ (0 < i → 0 < made.cps.size) ∧ (∀ c ∈ made.cps.toList, isSignN c = true) ∧ made.cps.toList.Nodup) ⟨rfl, _, _, rfl, Nat.le_of_eq (by kernel_rfl), fun z => absurd z (by decide), fun c hc => (by cases hc), List.nodup_nil⟩ ?_ ?_⟩
      · rintro i c σ H2 hc ⟨rfl, made, v8, rfl, m1, m2, m3, m4⟩
        have hi : i < here.cps.size := by
          rw [← Array.getElem?_toList] at hc
          have := (List.getElem?_eq_some_iff.mp hc).1
          simpa using this
        have hcs : isSignN c = true := hh2 c (by rw [← Array.getElem?_toList] at hc; exact List.mem_of_getElem? hc)
        refine ⟨_, rfl, _, rfl, _, _, rfl, rfl, _, rfl, ?_⟩
        rw [StrLaws.found_one]
        by_cases hm' : c ∈ made.cps.toList
        · rw [decide_eq_true hm']
          refine iteNT ⟨rfl, made, _, rfl, by omega, fun _ => ?_, m3, m4⟩
          have := List.length_pos_of_mem hm'
          simpa using this
        · rw [decide_eq_false hm']
          refine iteNF ⟨_, rfl, _, rfl, _, _, rfl, rfl, (by show made.cps.size + 1 ≤ sizeLine; exact Nat.le_trans (show made.cps.size + 1 ≤ 100 by omega) (by decide)), ?_⟩
          have e : (made.cps ++ #[c]).toList = made.cps.toList ++ [c] := by simp
          refine ⟨rfl, _, _, rfl, ?_, fun _ => ?_, fun d hd => ?_, ?_⟩
          · show (made.cps ++ #[c]).size ≤ i + 1
            rw [Array.size_append]
            show made.cps.size + 1 ≤ _
            omega
          · show 0 < (made.cps ++ #[c]).size
            rw [Array.size_append]
            show 0 < made.cps.size + 1
            omega
          · have hd' : d ∈ made.cps.toList ++ [c] := by rw [← e]; exact hd
            rcases List.mem_append.mp hd' with hd | hd
            · exact m3 d hd
            · rw [List.mem_singleton.mp hd]; exact hcs
          · show (made.cps ++ #[c]).toList.Nodup
            rw [e]
            refine List.nodup_append.mpr ⟨m4, (by simp), fun x hx y hy z => ?_⟩
            rw [List.mem_singleton.mp hy] at z
            exact hm' (z ▸ hx)
      · rintro σ H2 ⟨rfl, made, v8, rfl, m1, m2, m3, m4⟩
        exact ⟨_, rfl, kk made ⟨m2 (by omega), by omega, m3, m4⟩ (by omega)⟩
end
section
variable {P : Program} {w : World} {K : PySem.W.Frag} {mg : Str → Option Value} {base : Heap}
end
section
variable {P : Program} {w : World} {K : PySem.W.Frag} {mg : Str → Option Value} {base : Heap}
theorem ok_check_place {f_check_place : Addr} {fd_check_place : FuncData} {p : Pm} (T : Txt K mg p w) (D_check_place : Dn K mg "check_place" s_check_place ["first", "second", "place"] f_check_place fd_check_place)  : FnOk P w K mg base CX0 1 f_check_place fd_check_place ["first", "second", "place"] (spCheckPlace K) := by
  refine D_check_place.fn.ok sc_check_place (fun vs H Q E h => ?_) (fun cdv A outer s H vs Q E hr h => ?_)
  · obtain ⟨f, s, q, ij, rfl, _⟩ := h
    rfl
  · obtain ⟨f, s, q, ij, rfl, hq, ⟨i1, i2, i3, i4⟩, hf, hs, k⟩ := h
    have zf : f.length ≤ sizeLine := Nat.le_trans hf (by decide)
    have zs : s.length ≤ sizeLine := Nat.le_trans hs (by decide)
    refine ⟨_, (pss_one (ps_if (pt_not (PW.pt (pw_and (pt_chain op_le op_le pe_int (pe_ix ix_tup (pv 2) pe_int (fun _ _ => rfl)) (pe_callB (call_len) rfl T.z_len bo_len (pa_cons (pv 0) pa_nil))) (pw_and1 (pt_chain op_le op_le pe_int (pe_ix ix_tup (pv 2) pe_int (fun _ _ => rfl)) (pe_callB (call_len) rfl T.z_len bo_len (pa_cons (pv 1) pa_nil))))))) pss_never pss_nil)), ?_⟩
    refine ⟨_, rfl, _, _, _, _, rfl, rfl, hq, rfl, _, _, rfl, rfl, _, rfl, ?_⟩
    refine ite_dec (fun _ => ?_) fun z => absurd i1 z
    refine ⟨_, rfl, _, _, rfl, ⟨zf, rfl⟩, _, _, rfl, rfl, _, rfl, ?_⟩
    refine ite_dec (fun _ => ?_) fun z => absurd i2 z
    refine ⟨_, rfl, _, _, _, _, rfl, rfl, hq, rfl, _, _, rfl, rfl, _, rfl, ?_⟩
    refine ite_dec (fun _ => ?_) fun z => absurd i3 z
    refine ⟨_, rfl, _, _, rfl, ⟨zs, rfl⟩, _, _, rfl, rfl, _, rfl, ?_⟩
    rw [decide_eq_true (show ij.2 ≤ ((s.length : Nat) : Int) from i4)]
    exact iteNT k
theorem ok_place_behind {f_place_behind : Addr} {fd_place_behind : FuncData} {p : Pm} (T : Txt K mg p w) (D_place_behind : Dn K mg "place_behind" s_place_behind ["place", "move"] f_place_behind fd_place_behind)  : FnOk P w K mg base CX0 1 f_place_behind fd_place_behind ["place", "move"] (spBehind K) := by
  refine D_place_behind.fn.ok sc_place_behind (fun vs H Q E h => ?_) (fun cdv A outer s H vs Q E hr h => ?_)
  · obtain ⟨q, c, ij, rfl, _⟩ := h
    rfl
  · obtain ⟨q, c, ij, rfl, hq, hc, k⟩ := h
    refine ⟨_, (pss_cons (ps_if (pt_cmpR op_notIn_kd (pv 1) (pe_glob (v := .ref p.a_STEPS) rfl T.g_STEPS rfl) (by with_unfolding_all rfl)) pss_never pss_nil)
      (pss_cons (ps_set (i := 2) sc_place_behind.nd rfl (Or.inl rfl) (pe_kget (pe_glob (v := .ref p.a_STEPS) rfl T.g_STEPS rfl) (pv 1) (fun _ _ => rfl)))
      (pss_one (ps_ret (pe_tup (pa_cons (pe_op op_add (pe_ix ix_tup (pv 0) pe_int (fun _ _ => rfl)) (pe_ix ix_tup (pv 2) pe_int (fun _ _ => rfl))) (pa_cons (pe_op op_add (pe_ix ix_tup (pv 0) pe_int (fun _ _ => rfl)) (pe_ix ix_tup (pv 2) pe_int (fun _ _ => rfl))) pa_nil))))))), ?_⟩
    obtain ⟨v, f, hv, hf, e⟩ : ∃ (v : Addr) (f : Fra), valV [(Sum.inr (Str.ofString "p"), V.ref p.v_STEPS0), (Sum.inr (Str.ofString "a"), V.ref p.v_STEPS1), (Sum.inr (Str.ofString "b"), V.ref p.v_STEPS2)] (Sum.inr ⟨#[c]⟩ : Key) = some (.ref v) ∧ (∀ H : Hp, SqT K H v [.int f.1, .int f.2]) ∧ stp ij c = (ij.1 + f.1, ij.2 + f.2) := by
      rcases hc with rfl | rfl | rfl
      · exact ⟨p.v_STEPS0, (1, 1), valV_pos (show (Sum.inr (Str.ofString "p") : Key) = Sum.inr ⟨#[112]⟩ by decide +kernel), T.q_STEPS0, rfl⟩
      · exact ⟨p.v_STEPS1, (1, 0), (valV_neg (show ¬ (Sum.inr (Str.ofString "p") : Key) = Sum.inr ⟨#[97]⟩ by decide +kernel)).trans (valV_pos (show (Sum.inr (Str.ofString "a") : Key) = Sum.inr ⟨#[97]⟩ by decide +kernel)), T.q_STEPS1, rfl⟩
      · exact ⟨p.v_STEPS2, (0, 1), (valV_neg (show ¬ (Sum.inr (Str.ofString "p") : Key) = Sum.inr ⟨#[98]⟩ by decide +kernel)).trans ((valV_neg (show ¬ (Sum.inr (Str.ofString "a") : Key) = Sum.inr ⟨#[98]⟩ by decide +kernel)).trans (valV_pos (show (Sum.inr (Str.ofString "b") : Key) = Sum.inr ⟨#[98]⟩ by decide +kernel))), T.q_STEPS2, rfl⟩
    refine ⟨_, rfl, p.a_STEPS, _, .inr ⟨#[c]⟩, rfl, rfl, T.kd_STEPS P, _, rfl, ?_⟩
    rw [hv]
    refine iteNT ?_
    refine ⟨_, rfl, p.a_STEPS, _, .inr ⟨#[c]⟩, _, rfl, rfl, T.kd_STEPS P, hv, ?_⟩
    refine ⟨_, rfl, _, _, _, _, rfl, rfl, hq, rfl, _, rfl, _, _, _, _, rfl, rfl, hf _, rfl, _, _, rfl, rfl, _, rfl, _, _, _, _, rfl, rfl, hq, rfl, _, rfl, _, _, _, _, rfl, rfl, hf _, rfl, _, _, rfl, rfl, by show 2 ≤ sizeLine; decide, fun r hr => ?_⟩
    have z := k r hr
    rw [e] at z
    exact z
theorem ok_places_of {f_places_of f_check_place f_place_behind : Addr} {fd_places_of fd_check_place fd_place_behind : FuncData} {p : Pm} (T : Txt K mg p w) (D_places_of : Dn K mg "places_of" s_places_of ["first", "second", "begin", "moves"] f_places_of fd_places_of) (D_check_place : Dn K mg "check_place" s_check_place ["first", "second", "place"] f_check_place fd_check_place) (G_check_place : FnOk P w K mg base CX0 1 f_check_place fd_check_place ["first", "second", "place"] (spCheckPlace K)) (D_place_behind : Dn K mg "place_behind" s_place_behind ["place", "move"] f_place_behind fd_place_behind) (G_place_behind : FnOk P w K mg base CX0 1 f_place_behind fd_place_behind ["place", "move"] (spBehind K)) : FnOk P w K mg base CX0 2 f_places_of fd_places_of ["first", "second", "begin", "moves"] (spPlaces K) := by
  refine D_places_of.fn.ok sc_places_of (fun vs H Q E h => ?_) (fun cdv A outer s H vs Q E hr h => ?_)
  · obtain ⟨f, s, b, ij, mv, rfl, _⟩ := h
    rfl
  · obtain ⟨f, s, b, ij, mv, rfl, hb, W, k⟩ := h
    refine ⟨_, (pss_cons (ps_set (i := 4) sc_places_of.nd rfl (Or.inl rfl) (pe_tup (pa_cons (pe_ix ix_tup (pv 2) pe_int (fun _ _ => rfl)) (pa_cons (pe_ix ix_tup (pv 2) pe_int (fun _ _ => rfl)) pa_nil))))
      (pss_cons (ps_expr (pe_call G_check_place (hr.mono (by decide)) rfl D_check_place.m D_check_place.fn.kp D_check_place.b .nil pass0 (pa_cons (pv 0) (pa_cons (pv 1) (pa_cons (pv 4) pa_nil)))))
      (pss_cons (ps_set (i := 5) sc_places_of.nd rfl (Or.inl rfl) (pe_lst (pa_cons (pv 4) pa_nil)))
      (pss_cons (ps_for PassesOwn.never rfl (pi_txt (pv 3)) (pg_name (i := 6) sc_places_of.nd rfl (Or.inl rfl)) (pss_cons (ps_set (i := 4) sc_places_of.nd rfl (Or.inl rfl) (pe_call G_place_behind (hr.mono (by decide)) rfl D_place_behind.m D_place_behind.fn.kp D_place_behind.b .nil pass0 (pa_cons (pv 4) (pa_cons (pv 6) pa_nil))))
      (pss_cons (ps_expr (pe_call G_check_place (hr.mono (by decide)) rfl D_check_place.m D_check_place.fn.kp D_check_place.b .nil pass0 (pa_cons (pv 0) (pa_cons (pv 1) (pa_cons (pv 4) pa_nil)))))
      (pss_one (ps_expr (pe_bm PySem.F.plainAttrs_list PySem.F.slot_list_append PySem.F.type_list_append mt_append (pv 5) (pa_cons (pv 4) pa_nil)))))))
      (pss_one (ps_ret (pv 5))))))), ?_⟩
    refine ⟨_, rfl, _, _, _, _, rfl, rfl, hb, rfl, _, rfl, _, _, _, _, rfl, rfl, hb, rfl, by show 2 ≤ sizeLine; decide, fun q0 hq0 => ?_⟩
    have t0 : TupAt (upd H q0 (.tup [.int ij.1, .int ij.2])) q0 ij := upd_same
    have s1 : Same H (upd H q0 (.tup [.int ij.1, .int ij.2])) := Same.upd hq0
    generalize upd H q0 (.tup [.int ij.1, .int ij.2]) = H1 at t0 s1 ⊢
    refine ⟨_, rfl, _, rfl, _, rfl, f, s, q0, ij, rfl, t0.fr, W.inn 0 (Nat.zero_le _), W.fs, W.ss, ?_⟩
    refine ⟨_, rfl, by show 1 ≤ sizeLine; decide, fun l hl => ?_⟩
    have hl0 : H l = none := Same.free s1 hl
    refine ⟨_, rfl, mv, rfl, for_txt (x := mv) (fun i σ H2 => ∃ (qs : List Addr) (q : Addr) (v6 : Option V), σ = [some (.str f), some (.str s), some (.ref b), some (.str mv), some (.ref q), some (.ref l), v6] ∧ qs[i]? = some q ∧ qs.length = i + 1 ∧ H2 l = some (.lst (qs.map V.ref)) ∧ (∀ (k : Nat) q, qs[k]? = some q → TupAt H2 q (pla ij mv.cps.toList k)) ∧ Same H H2)
      ⟨[q0], q0, _, rfl, rfl, rfl, upd_same, ?_, s1.trans (Same.upd hl)⟩ ?_ ?_⟩
    · intro k q hk
      match k, hk with
      | 0, hk => cases hk; exact t0.same (Same.upd hl)
      | k + 1, hk => simp at hk
    · rintro i c σ H2 hc ⟨qs, q, v6, rfl, hq, hql, hl2, hts, s2⟩
      have hi := cps_lt hc
      have tq := hts i q hq
      refine ⟨_, rfl, _, rfl, q, c, _, rfl, tq.fr, W.ok c (cps_mem hc), fun r hr => ?_⟩
      have e := pla_succ (q := ij) (cps_list hc)
      rw [← e]
      have tr : TupAt (upd H2 r (.tup [.int (pla ij mv.cps.toList (i + 1)).1, .int (pla ij mv.cps.toList (i + 1)).2])) r (pla ij mv.cps.toList (i + 1)) := upd_same
      have s3 : Same H2 (upd H2 r (.tup [.int (pla ij mv.cps.toList (i + 1)).1, .int (pla ij mv.cps.toList (i + 1)).2])) := Same.upd hr
      generalize upd H2 r (.tup [.int (pla ij mv.cps.toList (i + 1)).1, .int (pla ij mv.cps.toList (i + 1)).2]) = H3 at tr s3 ⊢
      refine ⟨_, rfl, _, rfl, _, rfl, f, s, r, _, rfl, tr.fr, W.inn (i + 1) hi, W.fs, W.ss, ?_⟩
      have hl3 := s3 _ _ hl2
      refine ⟨_, rfl, .inl ⟨rfl, _, SqL.of hl3⟩, _, rfl, l, _, _, rfl, rfl, hl3, ?_, ?_⟩
      · rw [List.length_map, hql]
        have := W.ms
        exact Nat.lt_of_lt_of_le (show i + 1 < 3000 by omega) (by decide)
      refine ⟨qs ++ [r], r, _, rfl, ?_, by rw [List.length_append, hql]; rfl, by rw [upd_same, List.map_append]; rfl, fun k q hk => ?_, Same.at (s2.trans s3) hl0⟩
      · rw [List.getElem?_append_right (by rw [hql]; exact Nat.le_refl _), hql, Nat.sub_self]; rfl
      · by_cases z : k < qs.length
        · rw [List.getElem?_append_left z] at hk
          exact ((hts k q hk).same s3).off hl3
        · rw [List.getElem?_append_right (Nat.le_of_not_lt z)] at hk
          have z0 : k - qs.length = 0 := by
            have := (List.getElem?_eq_some_iff.mp hk).1
            simp at this
            omega
          have zk : k = i + 1 := by omega
          rw [z0] at hk
          cases hk
          subst zk
          exact tr.off hl3
    · rintro σ H2 ⟨qs, q, v6, rfl, hq, hql, hl2, hts, s2⟩
      exact ⟨_, rfl, k l H2 qs s2 hl2 hql hts⟩
end
section
variable {P : Program} {w : World} {K : PySem.W.Frag} {mg : Str → Option Value} {base : Heap}
theorem ok_may_end {f_may_end : Addr} {fd_may_end : FuncData} {p : Pm} (T : Txt K mg p w) (D_may_end : Dn K mg "may_end" s_may_end ["manner", "first", "second", "place"] f_may_end fd_may_end)  : FnOk P w K mg base CX0 1 f_may_end fd_may_end ["manner", "first", "second", "place"] (spMayE K) := by
  refine D_may_end.fn.ok sc_may_end (fun vs H Q E h => ?_) (fun cdv A outer s H vs Q E hr h => ?_)
  · obtain ⟨m, f, s, a, q, rfl, _⟩ := h
    rfl
  · obtain ⟨m, f, s, a, q, rfl, hq, hf, hs, k⟩ := h
    have zf : f.length ≤ sizeLine := Nat.le_trans hf (by decide)
    have zs : s.length ≤ sizeLine := Nat.le_trans hs (by decide)
    refine ⟨_, (pss_cons (ps_if (pt_cmpR op_eq (pv 0) pe_str (nomark _)) (pss_one (ps_ret (pe_and (pe_cmpR op_eq (pe_ix ix_tup (pv 3) pe_int (fun _ _ => rfl)) (pe_callB (call_len) rfl T.z_len bo_len (pa_cons (pv 1) pa_nil)) (nomark _)) (pe_one (pe_cmpR op_eq (pe_ix ix_tup (pv 3) pe_int (fun _ _ => rfl)) (pe_callB (call_len) rfl T.z_len bo_len (pa_cons (pv 2) pa_nil)) (nomark _)))))) pss_nil)
      (pss_cons (ps_if (pt_cmpR op_eq (pv 0) pe_str (nomark _)) (pss_one (ps_ret pe_bl)) pss_nil)
      (pss_one (ps_ret (pe_cmpR op_eq (pe_ix ix_tup (pv 3) pe_int (fun _ _ => rfl)) (pe_callB (call_len) rfl T.z_len bo_len (pa_cons (pv 1) pa_nil)) (nomark _)))))), ?_⟩
    unfold mayE at k
    refine ⟨_, rfl, rfl, _, rfl, ?_⟩
    refine ite_str (fun h1 => ?_) fun h1 => ?_
    · rw [if_pos h1] at k
      refine ⟨_, rfl, _, _, _, _, rfl, rfl, hq, rfl, _, rfl, _, _, rfl, ⟨zf, rfl⟩, rfl, _, rfl, ?_⟩
      refine ite_eq (fun z => ?_) fun z => ?_
      · refine ⟨_, rfl, _, _, _, _, rfl, rfl, hq, rfl, _, rfl, _, _, rfl, ⟨zs, rfl⟩, rfl, ?_⟩
        rw [decide_eq_true (show q.1 = (f.cps.size : Int) from z), Bool.true_and] at k
        rw [dec_vint]
        exact k
      · rw [decide_eq_false (show ¬ q.1 = (f.cps.size : Int) from z), Bool.false_and] at k
        exact k
    rw [if_neg h1] at k
    refine ⟨_, rfl, rfl, _, rfl, ?_⟩
    refine ite_str (fun h2 => ?_) fun h2 => ?_
    · rw [if_pos h2] at k
      exact k
    rw [if_neg h2] at k
    refine ⟨_, rfl, _, _, _, _, rfl, rfl, hq, rfl, _, rfl, _, _, rfl, ⟨zf, rfl⟩, rfl, ?_⟩
    rw [dec_vint]
    exact k
end
section
variable {P : Program} {w : World} {K : PySem.W.Frag} {mg : Str → Option Value} {base : Heap}
end
section
variable {P : Program} {w : World} {K : PySem.W.Frag} {mg : Str → Option Value} {base : Heap}
theorem ok_things_at {f_things_at : Addr} {fd_things_at : FuncData} {p : Pm} (T : Txt K mg p w) (D_things_at : Dn K mg "things_at" s_things_at ["texts", "place"] f_things_at fd_things_at)  : FnOk P w K mg base CX0 1 f_things_at fd_things_at ["texts", "place"] (spThingsAt K) := by
  refine D_things_at.fn.ok sc_things_at (fun vs H Q E h => ?_) (fun cdv A outer s H vs Q E hr h => ?_)
  · obtain ⟨v, rs, n, rfl, _⟩ := h
    rfl
  · obtain ⟨v, rs, n, rfl, hR, hS, hn, k⟩ := h
    obtain ⟨c, rfl, hc⟩ := hR.cp
    have hz : rs.length < sizeLine := Nat.lt_of_le_of_lt hS.len (by decide)
    refine ⟨_, (pss_one (ps_ret (pe_bm PySem.F.plainAttrs_str PySem.F.slot_str_join PySem.F.type_str_join mt_join pe_str (pa_cons (pe_comp (N := ["text", "place"]) rfl (CompSc.freeB (nt := 1) (ix := [1]) rfl (by decide +kernel) (by decide +kernel) (by kernel_rfl) rfl (by kernel_rfl)) (pi_cp (pv 0)) (fun _ _ _ _ _ _ _ => (pg_name (i := 0) (show (["text", "place"] : List Str).Nodup by decide +kernel) rfl (Or.inl rfl))) (fun _ _ _ _ _ _ _ => (pe_ix ix_str (pv 0) (pv 1) (fun _ _ => rfl)))) pa_nil)))), ?_⟩
    refine ⟨rfl, _, rfl, c, _, rfl, hc _ (Same.refl _), fun l hl => ?_⟩
    refine cm_map rs.length (fun i => sg ((rs.getD i ⟨#[]⟩).cps.toList.getD n 0)) hl hz (fun i H2 s2 hi => ?_) (fun H2 s2 => ?_) (fun i x H2 H3 R s2 hi y hR => ?_) fun H2 s2 hl2 => ?_
    · exact ⟨_, _, hc _ s2, by rw [List.getElem?_map, List.getElem?_eq_getElem hi]; rfl⟩
    · exact ⟨_, hc _ s2, by rw [List.length_map]; exact Nat.le_refl _⟩
    · obtain ⟨rfl, y⟩ := y
      have e := y _ (hc _ s2)
      rw [List.getElem?_map, List.getElem?_eq_getElem hi] at e
      cases e
      have hm := List.getElem_mem hi
      have hn' : n < rs[i].cps.toList.length := by rw [Array.length_toList]; exact hn _ hm
      refine ⟨Kp.set0, ?_⟩
      refine ⟨_, rfl, _, rfl, _, _, rs[i].cps.toList[n], rfl, rfl, Nat.le_trans (hS.row _ hm) (by decide), atI_nat (List.getElem?_eq_getElem hn'), ?_⟩
      have e2 : rs[i].cps.toList[n] = (rs.getD i ⟨#[]⟩).cps.toList.getD n 0 := by
        have e3 : rs.getD i ⟨#[]⟩ = rs[i] := by rw [List.getD_eq_getElem?_getD, List.getElem?_eq_getElem hi, Option.getD_some]
        rw [e3, List.getD_eq_getElem?_getD, List.getElem?_eq_getElem hn', Option.getD_some]
      rw [e2]
      exact hR _ (Same.refl _)
    · refine ⟨l, colL rs n, rfl, rfl, ?_, ?_, k H2 s2⟩
      · have e : (List.range rs.length).map (fun i => sg ((rs.getD i ⟨#[]⟩).cps.toList.getD n 0)) = (colL rs n).map sg := by
          unfold colL
          rw [List.map_map]
          refine List.ext_getElem (by simp) fun i h1 h2 => ?_
          have hi : i < rs.length := by simpa using h1
          simp [List.getD_eq_getElem?_getD, List.getElem?_eq_getElem hi]
        rw [e] at hl2
        exact SqL.of hl2
      · unfold colL
        rw [List.length_map]
        exact Nat.le_trans hS.len (by decide)
theorem ok_turned {f_turned f_things_at : Addr} {fd_turned fd_things_at : FuncData} {p : Pm} (T : Txt K mg p w) (D_turned : Dn K mg "turned" s_turned ["texts", "many"] f_turned fd_turned) (D_things_at : Dn K mg "things_at" s_things_at ["texts", "place"] f_things_at fd_things_at) (G_things_at : FnOk P w K mg base CX0 1 f_things_at fd_things_at ["texts", "place"] (spThingsAt K)) : FnOk P w K mg base CX0 2 f_turned fd_turned ["texts", "many"] (spTurned K) := by
  refine D_turned.fn.ok sc_turned (fun vs H Q E h => ?_) (fun cdv A outer s H vs Q E hr h => ?_)
  · obtain ⟨v, rs, n, rfl, _⟩ := h
    rfl
  · obtain ⟨v, rs, n, rfl, hR, hS, hn, hw, k⟩ := h
    refine ⟨_, (pss_one (ps_ret (pe_comp (N := ["place", "texts"]) rfl (CompSc.freeB (nt := 1) (ix := [0]) rfl (by decide +kernel) (by decide +kernel) (by kernel_rfl) rfl (by kernel_rfl)) (pi_range1 rfl T.z_range (pa_cons (pv 1) pa_nil)) (fun _ _ _ _ _ _ _ => (pg_name (i := 0) (show (["place", "texts"] : List Str).Nodup by decide +kernel) rfl (Or.inl rfl))) (fun _ _ _ _ _ _ _ => (pe_call G_things_at (hr.mono (by decide)) rfl D_things_at.m D_things_at.fn.kp D_things_at.b .nil pass0 (pa_cons (pv 1) (pa_cons (pv 0) pa_nil))))))), ?_⟩
    refine ⟨_, rfl, n, rfl, by omega, by omega, fun l hl => ?_⟩
    refine cm_map n (fun i => V.str (colS rs i)) hl (Nat.lt_of_le_of_lt hn (by decide)) (fun i H2 s2 hi => ?_) (fun H2 s2 => ?_) (fun i x H2 H3 R s2 hi y hR' => ?_) fun H2 s2 hl2 => ?_
    · show i < ((n : Nat) : Int).toNat
      omega
    · show ((n : Nat) : Int).toNat ≤ n
      omega
    · obtain ⟨rfl, rfl⟩ := y
      refine ⟨Kp.set0, ?_⟩
      refine ⟨_, rfl, _, rfl, v, rs, i, ?_, hR.same s2, hS, fun r hr => Nat.lt_of_lt_of_le hi (hw r hr), fun H5 s5 => hR' H5 s5⟩
      rw [Int.zero_add]; rfl
    · refine k l H2 s2 hl ?_
      rw [hl2]
      unfold cols
      rw [List.map_map]
      rfl
theorem ok_columns_of {f_columns_of f_turned : Addr} {fd_columns_of fd_turned : FuncData} {p : Pm} (T : Txt K mg p w) (D_columns_of : Dn K mg "columns_of" s_columns_of ["rows"] f_columns_of fd_columns_of) (D_turned : Dn K mg "turned" s_turned ["texts", "many"] f_turned fd_turned) (G_turned : FnOk P w K mg base CX0 2 f_turned fd_turned ["texts", "many"] (spTurned K)) : FnOk P w K mg base CX0 3 f_columns_of fd_columns_of ["rows"] (spColumns K) := by
  refine D_columns_of.fn.ok sc_columns_of (fun vs H Q E h => ?_) (fun cdv A outer s H vs Q E hr h => ?_)
  · obtain ⟨v, rs, rfl, _⟩ := h
    rfl
  · obtain ⟨v, rs, rfl, hR, hS, hl, k⟩ := h
    obtain ⟨hne, hw⟩ := lenB_iff.mp hl
    refine ⟨_, (pss_one (ps_ret (pe_call G_turned (hr.mono (by decide)) rfl D_turned.m D_turned.fn.kp D_turned.b .nil pass0 (pa_cons (pv 0) (pa_cons (pe_callB (call_len) rfl T.z_len bo_len (pa_cons (pe_ix ix_seq (pv 0) pe_int (fun _ _ => rfl)) pa_nil)) pa_nil))))), ?_⟩
    cases rs with
    | nil => exact absurd rfl hne
    | cons r0 rs =>
      have h0 := hS.row r0 (List.mem_cons_self ..)
      refine ⟨_, rfl, _, rfl, hR.ix (i := 0) rfl ?_⟩
      refine ⟨_, _, rfl, ⟨Nat.le_trans h0 (by decide), rfl⟩, v, _, r0.cps.size, rfl, hR, hS, h0, fun r hr => by rw [hw r hr]; exact Nat.le_refl _, fun l H' s' hn hl' => k l H' s' hn hl'⟩
theorem ok_is_gaps {f_is_gaps : Addr} {fd_is_gaps : FuncData} {p : Pm} (T : Txt K mg p w) (D_is_gaps : Dn K mg "is_gaps" s_is_gaps ["column"] f_is_gaps fd_is_gaps)  : FnOk P w K mg base CX0 1 f_is_gaps fd_is_gaps ["column"] spIsGaps := by
  refine D_is_gaps.fn.ok sc_is_gaps (fun vs H Q E h => ?_) (fun cdv A outer s H vs Q E hr h => ?_)
  · obtain ⟨x, rfl, _⟩ := h
    rfl
  · obtain ⟨x, rfl, hx, k⟩ := h
    refine ⟨_, (pss_one (ps_ret (pe_cmpR op_eq (pv 0) (pe_op op_repS (pe_glob (v := .str (Str.ofString "-")) rfl T.g_GAP ⟨_, rfl⟩) (pe_callB (call_len) rfl T.z_len bo_len (pa_cons (pv 0) pa_nil))) (nomark _)))), ?_⟩
    refine ⟨_, rfl, _, rfl, _, _, rfl, ⟨Nat.le_trans hx (by decide), rfl⟩, _, _, rfl, rfl, by show (-1000000 : Int) ≤ ((x.cps.size : Nat) : Int); omega, by show ((x.cps.size : Nat) : Int) ≤ 1000000; omega, by decide, ?_, rfl, ?_⟩
    · show ((x.cps.size : Nat) : Int).toNat * 1 ≤ sizeLine
      exact Nat.le_trans (show _ ≤ 1000 by omega) (by decide)
    · rw [gaps_eq]
      exact k
theorem ok_signs_of {f_signs_of : Addr} {fd_signs_of : FuncData} {p : Pm} (T : Txt K mg p w) (D_signs_of : Dn K mg "signs_of" s_signs_of ["things"] f_signs_of fd_signs_of)  : FnOk P w K mg base CX0 1 f_signs_of fd_signs_of ["things"] spSignsOf := by
  refine D_signs_of.fn.ok sc_signs_of (fun vs H Q E h => ?_) (fun cdv A outer s H vs Q E hr h => ?_)
  · obtain ⟨x, rfl, _⟩ := h
    rfl
  · obtain ⟨x, rfl, hx, k⟩ := h
    refine ⟨_, (pss_one (ps_ret (pe_strike (pv 0) rfl T.g_GAP))), ?_⟩
    exact ⟨_, rfl, x, rfl, by omega, k⟩
theorem ok_are_things {f_are_things f_signs_of f_are_signs : Addr} {fd_are_things fd_signs_of fd_are_signs : FuncData} {p : Pm} (T : Txt K mg p w) (D_are_things : Dn K mg "are_things" s_are_things ["row"] f_are_things fd_are_things) (D_signs_of : Dn K mg "signs_of" s_signs_of ["things"] f_signs_of fd_signs_of) (G_signs_of : FnOk P w K mg base CX0 1 f_signs_of fd_signs_of ["things"] spSignsOf) (D_are_signs : Dn K mg "are_signs" s_are_signs ["text"] f_are_signs fd_are_signs) (G_are_signs : FnOk P w K mg base CX0 2 f_are_signs fd_are_signs ["text"] spAreSigns) : FnOk P w K mg base CX0 3 f_are_things fd_are_things ["row"] spAreThings := by
  refine D_are_things.fn.ok sc_are_things (fun vs H Q E h => ?_) (fun cdv A outer s H vs Q E hr h => ?_)
  · obtain ⟨x, rfl, _⟩ := h
    rfl
  · obtain ⟨x, rfl, hx, k⟩ := h
    refine ⟨_, (pss_one (ps_ret (pe_call G_are_signs (hr.mono (by decide)) rfl D_are_signs.m D_are_signs.fn.kp D_are_signs.b .nil pass0 (pa_cons (pe_call G_signs_of (hr.mono (by decide)) rfl D_signs_of.m D_signs_of.fn.kp D_signs_of.b .nil pass0 (pa_cons (pv 0) pa_nil)) pa_nil)))), ?_⟩
    refine ⟨_, rfl, x, rfl, hx, _, rfl, ?_, k⟩
    show (x.cps.toList.filter (· != 45)).length ≤ 1000
    exact Nat.le_trans (List.length_filter_le _ _) (by rw [Array.length_toList]; exact hx)
end
section
variable {P : Program} {w : World} {K : PySem.W.Frag} {mg : Str → Option Value} {base : Heap}
theorem ok_check_lengths {f_check_lengths : Addr} {fd_check_lengths : FuncData} {p : Pm} (T : Txt K mg p w) (D_check_lengths : Dn K mg "check_lengths" s_check_lengths ["rows"] f_check_lengths fd_check_lengths)  : FnOk P w K mg base (CXs P w) 1 f_check_lengths fd_check_lengths ["rows"] (spChk K p.C_NoBlock (fun _ => true) lenB) := by
  refine D_check_lengths.fn.okX sc_check_lengths (fun vs H Q E h => ?_) (fun cdv A outer s H vs Q E hr h => ?_)
  · obtain ⟨v, rs, rfl, _⟩ := h
    rfl
  · obtain ⟨v, rs, rfl, hR, hS, _, k, kX⟩ := h
    obtain ⟨c, rfl, hc⟩ := hR.cp
    refine ⟨_, (pss_cons (ps_if (pt_cmpR op_eq (pe_callB (call_len) rfl T.z_len bo_len (pa_cons (pv 0) pa_nil)) pe_int (nomark _)) (pss_one (ps_raise lets_fn T.xc_NoBlock rfl rfl T.mg_NoBlock (pa_cons pe_str pa_nil))) pss_nil)
      (pss_one (ps_for passesOwn_fn rfl (pi_cp (pv 0)) (pg_name (i := 1) sc_check_lengths.nd rfl (Or.inl rfl)) (pss_one (ps_if (pt_cmpR op_ne (pe_callB (call_len) rfl T.z_len bo_len (pa_cons (pv 1) pa_nil)) (pe_callB (call_len) rfl T.z_len bo_len (pa_cons (pe_ix ix_seq (pv 0) pe_int (fun _ _ => rfl)) pa_nil)) (nomark _)) (pss_one (ps_raise lets_fn T.xc_NoBlock rfl rfl T.mg_NoBlock (pa_cons pe_str pa_nil))) pss_nil))))), ?_⟩
    refine ⟨_, rfl, _, _, rfl, hR.len, rfl, _, rfl, ?_⟩
    cases rs with
    | nil => exact iteT ⟨by show 1 ≤ sizeLine; decide, kX rfl H (Same.refl _)⟩
    | cons r0 rs =>
      refine iteF ?_
      have h0 := hS.row r0 (List.mem_cons_self ..)
      refine ⟨_, rfl, c, _, rfl, hc _ (Same.refl _), for_cp (K := K) (xs := (r0 :: rs).map V.str) (fun i σ H2 => H2 = H ∧ ∃ v1, σ = [some c.val, v1] ∧ ∀ r ∈ (r0 :: rs).take i, r.cps.size = r0.cps.size) ⟨rfl, _, rfl, fun r hr => (by cases hr)⟩ (fun i σ H2 _ ⟨e, _⟩ => by rw [e]; exact hc _ (Same.refl _)) ?_ ?_⟩
      · rintro i x σ H2 hx ⟨rfl, v1, rfl, hw⟩
        rw [List.getElem?_map] at hx
        obtain ⟨r, hr, rfl⟩ := Option.map_eq_some_iff.mp hx
        have hm := List.mem_of_getElem? hr
        have h1 := hS.row r hm
        refine ⟨_, rfl, _, _, rfl, ⟨Nat.le_trans h1 (by decide), rfl⟩, _, rfl, hR.ix (i := 0) rfl ⟨_, _, rfl, ⟨Nat.le_trans h0 (by decide), rfl⟩, rfl, _, rfl, ?_⟩⟩
        by_cases z : r.cps.size = r0.cps.size
        · rw [decide_eq_true (show V.int ((r.length : Nat) : Int) = V.int ((r0.length : Nat) : Int) by show V.int ((r.cps.size : Nat) : Int) = _; rw [z]; rfl)]
          refine iteF ⟨rfl, _, rfl, fun r' hr' => ?_⟩
          rw [List.take_succ, hr] at hr'
          rcases List.mem_append.mp hr' with hr' | hr'
          · exact hw r' hr'
          · rw [List.mem_singleton.mp hr']; exact z
        · rw [decide_eq_false (fun e => z (by injection e with e; have e' : ((r.cps.size : Nat) : Int) = ((r0.cps.size : Nat) : Int) := e; omega))]
          refine iteT ⟨by show 1 ≤ sizeLine; decide, kX ?_ _ (Same.refl _)⟩
          rw [Bool.eq_false_iff]
          exact fun e => z ((lenB_iff.mp e).2 r hm)
      · rintro σ H2 ⟨rfl, v1, rfl, hw⟩
        rw [List.length_map, List.take_length] at hw
        exact k (lenB_iff.mpr ⟨by simp, hw⟩) _ (Same.refl _)
theorem ok_check_things {f_check_things f_are_things : Addr} {fd_check_things fd_are_things : FuncData} {p : Pm} (T : Txt K mg p w) (D_check_things : Dn K mg "check_things" s_check_things ["rows"] f_check_things fd_check_things) (D_are_things : Dn K mg "are_things" s_are_things ["row"] f_are_things fd_are_things) (G_are_things : FnOk P w K mg base CX0 3 f_are_things fd_are_things ["row"] spAreThings) : FnOk P w K mg base (CXs P w) 4 f_check_things fd_check_things ["rows"] (spChk K p.C_NoBlock (fun _ => true) (fun rs => rs.all thingsB)) := by
  refine D_check_things.fn.okX sc_check_things (fun vs H Q E h => ?_) (fun cdv A outer s H vs Q E hr h => ?_)
  · obtain ⟨v, rs, rfl, _⟩ := h
    rfl
  · obtain ⟨v, rs, rfl, hR, hS, _, k, kX⟩ := h
    obtain ⟨c, rfl, hc⟩ := hR.cp
    refine ⟨_, (pss_one (ps_for passesOwn_fn rfl (pi_cp (pv 0)) (pg_name (i := 1) sc_check_things.nd rfl (Or.inl rfl)) (pss_one (ps_if (pt_not (pt_val (pe_call G_are_things (hr.mono (by decide)) rfl D_are_things.m D_are_things.fn.kp D_are_things.b .nil pass0 (pa_cons (pv 1) pa_nil)))) (pss_one (ps_raise lets_fn T.xc_NoBlock rfl rfl T.mg_NoBlock (pa_cons pe_str pa_nil))) pss_nil)))), ?_⟩
    refine ⟨_, rfl, c, _, rfl, hc _ (Same.refl _), for_cp (K := K) (xs := rs.map V.str) (fun i σ H2 => Same H H2 ∧ ∃ v1, σ = [some c.val, v1] ∧ ∀ r ∈ rs.take i, thingsB r = true) ⟨Same.refl _, _, rfl, fun r hr => (by cases hr)⟩ (fun i σ H2 _ ⟨e, _⟩ => hc _ e) ?_ ?_⟩
    · rintro i x σ H2 hx ⟨s2, v1, rfl, hw⟩
      rw [List.getElem?_map] at hx
      obtain ⟨r, hr, rfl⟩ := Option.map_eq_some_iff.mp hx
      have hm := List.mem_of_getElem? hr
      refine ⟨_, rfl, r, rfl, hS.row r hm, fun H3 s3 => ⟨_, rfl, ?_⟩⟩
      cases z : thingsB r with
      | true =>
        refine iteNT ⟨s2.trans s3, _, rfl, fun r' hr' => ?_⟩
        rw [List.take_succ, hr] at hr'
        rcases List.mem_append.mp hr' with hr' | hr'
        · exact hw r' hr'
        · rw [List.mem_singleton.mp hr']; exact z
      | false =>
        refine iteNF ⟨by show 1 ≤ sizeLine; decide, kX ?_ _ (s2.trans s3)⟩
        rw [Bool.eq_false_iff]
        exact fun e => by rw [List.all_eq_true] at e; rw [e r hm] at z; cases z
    · rintro σ H2 ⟨s2, v1, rfl, hw⟩
      rw [List.length_map, List.take_length] at hw
      exact k (List.all_eq_true.mpr hw) _ s2
theorem ok_check_columns {f_check_columns f_columns_of f_is_gaps : Addr} {fd_check_columns fd_columns_of fd_is_gaps : FuncData} {p : Pm} (T : Txt K mg p w) (D_check_columns : Dn K mg "check_columns" s_check_columns ["rows"] f_check_columns fd_check_columns) (D_columns_of : Dn K mg "columns_of" s_columns_of ["rows"] f_columns_of fd_columns_of) (G_columns_of : FnOk P w K mg base CX0 3 f_columns_of fd_columns_of ["rows"] (spColumns K)) (D_is_gaps : Dn K mg "is_gaps" s_is_gaps ["column"] f_is_gaps fd_is_gaps) (G_is_gaps : FnOk P w K mg base CX0 1 f_is_gaps fd_is_gaps ["column"] spIsGaps) : FnOk P w K mg base (CXs P w) 4 f_check_columns fd_check_columns ["rows"] (spChk K p.C_NoBlock lenB colsB) := by
  refine D_check_columns.fn.okX sc_check_columns (fun vs H Q E h => ?_) (fun cdv A outer s H vs Q E hr h => ?_)
  · obtain ⟨v, rs, rfl, _⟩ := h
    rfl
  · obtain ⟨v, rs, rfl, hR, hS, hl, k, kX⟩ := h
    refine ⟨_, (pss_one (ps_for passesOwn_fn rfl (pi_list (pe_call G_columns_of (hr.mono (by decide)) rfl D_columns_of.m D_columns_of.fn.kp D_columns_of.b .nil pass0 (pa_cons (pv 0) pa_nil))) (pg_name (i := 1) sc_check_columns.nd rfl (Or.inl rfl)) (pss_one (ps_if (pt_val (pe_call G_is_gaps (hr.mono (by decide)) rfl D_is_gaps.m D_is_gaps.fn.kp D_is_gaps.b .nil pass0 (pa_cons (pv 1) pa_nil))) (pss_one (ps_raise lets_fn T.xc_NoBlock rfl rfl T.mg_NoBlock (pa_cons pe_str pa_nil))) pss_nil)))), ?_⟩
    refine ⟨_, rfl, v, rs, rfl, hR, hS, hl, fun l H1 s1 hn hl1 => ?_⟩
    refine ⟨l, rfl, ⟨_, SqL.of hl1⟩, for_list (K := K) (xs := (cols rs (wid rs)).map V.str) (fun i σ H2 => Same H1 H2 ∧ ∃ v1, σ = [some v, v1] ∧ ∀ r ∈ (cols rs (wid rs)).take i, (!gapsB r) = true) ⟨Same.refl _, _, rfl, fun r hr => (by cases hr)⟩ (fun i σ H2 _ ⟨e, _⟩ => SqL.of (e _ _ hl1)) ?_ ?_⟩
    · rintro i x σ H2 hx ⟨s2, v1, rfl, hw⟩
      rw [List.getElem?_map] at hx
      obtain ⟨r, hr, rfl⟩ := Option.map_eq_some_iff.mp hx
      have hm := List.mem_of_getElem? hr
      have hr1 : r.cps.size ≤ 1000 := by
        unfold cols at hm
        obtain ⟨j, _, rfl⟩ := List.mem_map.mp hm
        show (colL rs j).length ≤ 1000
        unfold colL
        rw [List.length_map]
        exact Nat.le_trans hS.len (by decide)
      refine ⟨_, rfl, r, rfl, hr1, _, rfl, ?_⟩
      cases z : gapsB r with
      | true =>
        refine iteT ⟨by show 1 ≤ sizeLine; decide, kX ?_ _ (s1.trans s2)⟩
        rw [Bool.eq_false_iff]
        exact fun e => by
          unfold colsB at e
          rw [List.all_eq_true] at e
          have := e r hm
          rw [z] at this
          cases this
      | false =>
        refine iteF ⟨s2, _, rfl, fun r' hr' => ?_⟩
        rw [List.take_succ, hr] at hr'
        rcases List.mem_append.mp hr' with hr' | hr'
        · exact hw r' hr'
        · rw [List.mem_singleton.mp hr', z]; rfl
    · rintro σ H2 ⟨s2, v1, rfl, hw⟩
      rw [List.length_map, List.take_length] at hw
      exact k (List.all_eq_true.mpr hw) _ (s1.trans s2)
end
section
variable {P : Program} {w : World} {K : PySem.W.Frag} {mg : Str → Option Value} {base : Heap}
theorem ok_Block___init__ {f_Block___init__ f_check_lengths f_check_things f_check_columns : Addr} {fd_Block___init__ fd_check_lengths fd_check_things fd_check_columns : FuncData} {p : Pm} (T : Txt K mg p w) (D_Block___init__ : Dm K "__init__" "Block.__init__" s_Block___init__ ["self", "rows"] f_Block___init__ fd_Block___init__) (D_check_lengths : Dn K mg "check_lengths" s_check_lengths ["rows"] f_check_lengths fd_check_lengths) (G_check_lengths : FnOk P w K mg base (CXs P w) 1 f_check_lengths fd_check_lengths ["rows"] (spChk K p.C_NoBlock (fun _ => true) lenB)) (D_check_things : Dn K mg "check_things" s_check_things ["rows"] f_check_things fd_check_things) (G_check_things : FnOk P w K mg base (CXs P w) 4 f_check_things fd_check_things ["rows"] (spChk K p.C_NoBlock (fun _ => true) (fun rs => rs.all thingsB))) (D_check_columns : Dn K mg "check_columns" s_check_columns ["rows"] f_check_columns fd_check_columns) (G_check_columns : FnOk P w K mg base (CXs P w) 4 f_check_columns fd_check_columns ["rows"] (spChk K p.C_NoBlock lenB colsB)) : FnOk P w K mg base (CXs P w) 5 f_Block___init__ fd_Block___init__ ["self", "rows"] (spBlock K p.C_Block p.C_NoBlock) := by
  refine D_Block___init__.fn.okX sc_Block___init__ (fun vs H Q E h => ?_) (fun cdv A outer s H vs Q E hr h => ?_)
  · obtain ⟨b, dx, v, rs, rfl, _⟩ := h
    rfl
  · obtain ⟨b, dx, v, rs, rfl, hb, hR, hS, k, kX⟩ := h
    refine ⟨_, (pss_cons (ps_expr (pe_call G_check_lengths (hr.mono (by decide)) rfl D_check_lengths.m D_check_lengths.fn.kp D_check_lengths.b .nil (Lets.passes lets_fn) (pa_cons (pv 1) pa_nil)))
      (pss_cons (ps_expr (pe_call G_check_things (hr.mono (by decide)) rfl D_check_things.m D_check_things.fn.kp D_check_things.b .nil (Lets.passes lets_fn) (pa_cons (pv 1) pa_nil)))
      (pss_cons (ps_expr (pe_call G_check_columns (hr.mono (by decide)) rfl D_check_columns.m D_check_columns.fn.kp D_check_columns.b .nil (Lets.passes lets_fn) (pa_cons (pv 1) pa_nil)))
      (pss_one (ps_fld (pv 0) (pe_callTy (call_tuple_of) rfl T.z_tuple bo_tuple (pa_cons (pv 1) pa_nil)) rfl))))), ?_⟩
    refine ⟨_, rfl, v, rs, rfl, hR, hS, rfl, fun e1 H1 s1 => ?_, fun e1 H1 s1 => kX (by unfold blockB; rw [e1]; rfl) H1 s1⟩
    refine ⟨_, rfl, v, rs, rfl, hR.same s1, hS, rfl, fun e2 H2 s2 => ?_, fun e2 H2 s2 => kX (by have e2' : rs.all thingsB = false := e2; unfold blockB; rw [e2', Bool.false_and, Bool.and_false]) H2 (s1.trans s2)⟩
    refine ⟨_, rfl, v, rs, rfl, (hR.same s1).same s2, hS, e1, fun e3 H3 s3 => ?_, fun e3 H3 s3 => kX (by unfold blockB; rw [e3, Bool.and_false, Bool.and_false]) H3 ((s1.trans s2).trans s3)⟩
    have s03 := (s1.trans s2).trans s3
    have hb3 := s03 _ _ hb
    have hall : blockB rs = true := by have e2' : rs.all thingsB = true := e2; unfold blockB; rw [e1, e2', e3]; rfl
    obtain ⟨a, rfl, hq⟩ := hR.same s03
    refine ⟨_, rfl, a, rs.map V.str, rfl, ?_⟩
    rcases hq with hq | hq
    · refine .inl ⟨hq, fun q hqn => ⟨_, rfl, b, _, dx, [], rfl, ?_, T.cl_Block, T.n_Block_rows, by show 0 < 1000; decide, ?_⟩⟩
      · exact Same.upd hqn _ _ hb3
      · have nb : q ≠ b := fun z => by rw [z, hb3] at hqn; cases hqn
        refine k hall _ (fun a' u h1 h2 => ?_) ⟨dx, q, upd_same, .inl (.inl (by rw [upd_ne nb, upd_same]))⟩
        rw [upd_ne h2]
        exact Same.upd hqn _ _ (s03 _ _ h1)
    · refine .inr ⟨hq, _, rfl, b, _, dx, _, rfl, hb3, T.cl_Block, T.n_Block_rows, by show 0 < 1000; decide, ?_⟩
      refine k hall _ (fun a' u h1 h2 => ?_) ⟨dx, a, upd_same, SqT.offI hb3 hq⟩
      rw [upd_ne h2]
      exact s03 _ _ h1
theorem ok_check_row {f_check_row : Addr} {fd_check_row : FuncData} {p : Pm} (T : Txt K mg p w) (D_check_row : Dn K mg "check_row" s_check_row ["block", "row"] f_check_row fd_check_row)  : FnOk P w K mg base (CXs P w) 1 f_check_row fd_check_row ["block", "row"] (spRowB K p.C_Block p.C_NoRow) := by
  refine D_check_row.fn.okX sc_check_row (fun vs H Q E h => ?_) (fun cdv A outer s H vs Q E hr h => ?_)
  · obtain ⟨b, i, rs, rfl, _⟩ := h
    rfl
  · obtain ⟨b, i, rs, rfl, ⟨dx, q, hb, hq⟩, k, kX⟩ := h
    refine ⟨_, (pss_one (ps_if (pt_not (pt_chain op_le op_lt pe_int (pv 1) (pe_callB (call_len) rfl T.z_len bo_len (pa_cons (pe_fld (pv 0) rfl) pa_nil)))) (pss_one (ps_raise lets_fn T.xc_NoRow rfl rfl T.mg_NoRow (pa_cons pe_str pa_nil))) pss_nil)), ?_⟩
    refine ⟨_, rfl, _, _, rfl, rfl, _, rfl, ?_⟩
    refine ite_dec (fun h1 => ?_) fun h1 => ?_
    · have h1' : 0 ≤ i := h1
      refine ⟨_, rfl, b, _, dx, _, _, rfl, hb, T.cl_Block, T.n_Block_rows, rows_at, _, _, rfl, .inr ⟨_, hq, rfl⟩, _, _, rfl, rfl, _, rfl, ?_⟩
      rw [List.length_map]
      by_cases h2 : i < (rs.length : Int)
      · rw [decide_eq_true h2]
        exact iteNT (k (by unfold inR; rw [decide_eq_true h1', decide_eq_true h2]; rfl))
      · rw [decide_eq_false h2]
        exact iteNF ⟨by show 1 ≤ sizeLine; decide, kX (by unfold inR; rw [decide_eq_false h2, Bool.and_false])⟩
    · have h1' : ¬ 0 ≤ i := h1
      exact ⟨_, rfl, iteNF ⟨by show 1 ≤ sizeLine; decide, kX (by unfold inR; rw [decide_eq_false h1']; rfl)⟩⟩
theorem ok_bare {f_bare f_check_row f_signs_of : Addr} {fd_bare fd_check_row fd_signs_of : FuncData} {p : Pm} (T : Txt K mg p w) (D_bare : Dn K mg "bare" s_bare ["block", "row"] f_bare fd_bare) (D_check_row : Dn K mg "check_row" s_check_row ["block", "row"] f_check_row fd_check_row) (G_check_row : FnOk P w K mg base (CXs P w) 1 f_check_row fd_check_row ["block", "row"] (spRowB K p.C_Block p.C_NoRow)) (D_signs_of : Dn K mg "signs_of" s_signs_of ["things"] f_signs_of fd_signs_of) (G_signs_of : FnOk P w K mg base CX0 1 f_signs_of fd_signs_of ["things"] spSignsOf) : FnOk P w K mg base (CXs P w) 2 f_bare fd_bare ["block", "row"] (spBare K p.C_Block p.C_NoRow) := by
  refine D_bare.fn.okX sc_bare (fun vs H Q E h => ?_) (fun cdv A outer s H vs Q E hr h => ?_)
  · obtain ⟨b, i, rs, rfl, _⟩ := h
    rfl
  · obtain ⟨b, i, rs, rfl, hB, hS, k, kX⟩ := h
    refine ⟨_, (pss_cons (ps_expr (pe_call G_check_row (hr.mono (by decide)) rfl D_check_row.m D_check_row.fn.kp D_check_row.b .nil (Lets.passes lets_fn) (pa_cons (pv 0) (pa_cons (pv 1) pa_nil))))
      (pss_one (ps_ret (pe_call G_signs_of (hr.mono (by decide)) rfl D_signs_of.m D_signs_of.fn.kp D_signs_of.b .nil pass0 (pa_cons (pe_ix ix_tup (pe_fld (pv 0) rfl) (pv 1) (fun _ _ => rfl)) pa_nil))))), ?_⟩
    refine ⟨_, rfl, _, rfl, b, i, rs, rfl, hB, fun e => ?_, kX⟩
    obtain ⟨dx, q, hb, hq⟩ := hB
    unfold inR at e
    rw [Bool.and_eq_true, decide_eq_true_iff, decide_eq_true_iff] at e
    obtain ⟨n, rfl⟩ : ∃ n : Nat, i = (n : Int) := ⟨i.toNat, by omega⟩
    have hlt : n < rs.length := by omega
    have hat := List.getElem?_eq_getElem hlt
    refine ⟨_, rfl, b, _, dx, _, _, rfl, hb, T.cl_Block, T.n_Block_rows, rows_at, _, rfl, q, _, _, _, rfl, rfl, hq, ?_, _, rfl, hS.row _ (List.getElem_mem hlt), k _ e.1 hat⟩
    exact atI_nat (by rw [List.getElem?_map, hat]; rfl)
end
section
variable {P : Program} {w : World} {K : PySem.W.Frag} {mg : Str → Option Value} {base : Heap}
theorem ok_NoText___init__ {f_NoText___init__ : Addr} {fd_NoText___init__ : FuncData} {p : Pm} (T : Txt K mg p w) (D_NoText___init__ : Dm K "__init__" "NoText.__init__" s_NoText___init__ ["self", "line"] f_NoText___init__ fd_NoText___init__)  : FnOk P w K mg base (CXs P w) 1 f_NoText___init__ fd_NoText___init__ ["self", "line"] (spNoText p.C_NoText) := by
  refine D_NoText___init__.fn.okX sc_NoText___init__ (fun vs H Q E h => ?_) (fun cdv A outer s H vs Q E hr h => ?_)
  · obtain ⟨e, i, rfl, _⟩ := h
    rfl
  · obtain ⟨e, i, rfl, he, hi, k⟩ := h
    obtain ⟨fI, xc⟩ := T.xk_NoText
    refine ⟨_, (pss_cons (ps_expr (pe_base T.xw_WeaveError rfl T.mg_WeaveError (pa_cons (pv 0) (pa_cons (pe_join (pj_cons pe_str (pj_cons (pe_fmt (pv 1)) pj_nil))) pa_nil))))
      (pss_one (ps_fldX (pv 0) (pv 1) rfl))), ?_⟩
    have li := log_small hi
    have ti := PyProof.Rows.int_text_len_1921 li
    have l0 : (Str.empty ++ Str.ofString "not written as it should be: row ").length ≤ 50 := by decide
    have l1 := fit_app l0 ti
    refine ⟨_, rfl, _, rfl, Nat.le_trans l0 (by decide), _, rfl, _, rfl, li, _, rfl, Nat.le_trans l1 (by decide), Nat.le_trans l1 (by decide), ?_⟩
    refine ⟨e, p.C_NoText, fI, none, _, rfl, he, xc, ?_⟩
    refine ⟨_, rfl, _, rfl, e, p.C_NoText, rfl, T.xs_NoText, T.n_NoText_line, .inl ⟨he, fun dx hdx => ?_⟩⟩
    have ne : dx ≠ e := fun z => by rw [z, he] at hdx; cases hdx
    refine k dx _ (fun b u hb hbe => ?_) hdx (by rw [upd_ne (Ne.symm ne), upd_same]) upd_same
    have nb : b ≠ dx := fun z => by rw [z, hdx] at hb; cases hb
    rw [upd_ne nb, upd_ne hbe, upd_ne nb]
    exact hb
theorem ok_written_block {f_written_block : Addr} {fd_written_block : FuncData} {p : Pm} (T : Txt K mg p w) (D_written_block : Dn K mg "written_block" s_written_block ["block"] f_written_block fd_written_block)  : FnOk P w K mg base CX0 1 f_written_block fd_written_block ["block"] (spWrB K p.C_Block) := by
  refine D_written_block.fn.ok sc_written_block (fun vs H Q E h => ?_) (fun cdv A outer s H vs Q E hr h => ?_)
  · obtain ⟨b, rs, rfl, _⟩ := h
    rfl
  · obtain ⟨b, rs, rfl, ⟨dx, q, hb, hq⟩, hS, k⟩ := h
    refine ⟨_, (pss_one (ps_ret (pe_bm PySem.F.plainAttrs_str PySem.F.slot_str_join PySem.F.type_str_join (mt_joinS rfl) (pe_glob (v := .str (Str.ofString "\n")) rfl T.g_LINE_END ⟨_, rfl⟩) (pa_cons (pe_fld (pv 0) rfl) pa_nil)))), ?_⟩
    refine ⟨?_, _, rfl, b, _, dx, _, _, rfl, hb, T.cl_Block, T.n_Block_rows, rows_at, _, q, rs, rfl, rfl, .inr hq, ?_, fun z hz => Nat.le_trans (hS.row z hz) (by decide), Nat.le_trans hS.len (by decide), k⟩
    · exact rfl
    · show 1 ≤ 1; decide
theorem ok_read_block {f_read_block f_are_things f_NoText___init__ f_Block___init__ : Addr} {fd_read_block fd_are_things fd_NoText___init__ fd_Block___init__ : FuncData} {p : Pm} (T : Txt K mg p w) (D_read_block : Dn K mg "read_block" s_read_block ["text"] f_read_block fd_read_block) (D_are_things : Dn K mg "are_things" s_are_things ["row"] f_are_things fd_are_things) (G_are_things : FnOk P w K mg base CX0 3 f_are_things fd_are_things ["row"] spAreThings) (D_NoText___init__ : Dm K "__init__" "NoText.__init__" s_NoText___init__ ["self", "line"] f_NoText___init__ fd_NoText___init__) (M_NoText : XMk K p.C_NoText f_NoText___init__) (G_NoText___init__ : FnOk P w K mg base (CXs P w) 1 f_NoText___init__ fd_NoText___init__ ["self", "line"] (spNoText p.C_NoText)) (D_Block___init__ : Dm K "__init__" "Block.__init__" s_Block___init__ ["self", "rows"] f_Block___init__ fd_Block___init__) (M_Block : Mk K p.C_Block f_Block___init__) (G_Block___init__ : FnOk P w K mg base (CXs P w) 5 f_Block___init__ fd_Block___init__ ["self", "rows"] (spBlock K p.C_Block p.C_NoBlock)) : FnOk P w K mg base (CXs P w) 7 f_read_block fd_read_block ["text"] (spReadB K p.C_Block p.C_NoBlock p.C_NoText) := by
  refine D_read_block.fn.okX sc_read_block (fun vs H Q E h => ?_) (fun cdv A outer s H vs Q E hr h => ?_)
  · obtain ⟨rs, rfl, _⟩ := h
    rfl
  · obtain ⟨rs, rfl, L, kq, kt, kb⟩ := h
    have hS := L.sm
    have hl := hS.len
    have hr0 : rs[0]? = some (rs.headD ⟨#[]⟩) := by
      cases rs with
      | nil => exact absurd rfl L.ne
      | cons r0 t => rfl
    have hz0 := hS.row _ (List.mem_of_getElem? hr0)
    have hzj : (jn rs).length ≤ 200000 := Nat.le_trans hS.jn (by decide)
    refine ⟨_, (pss_cons (ps_set (i := 1) sc_read_block.nd rfl (Or.inl rfl) (pe_bm PySem.F.plainAttrs_str PySem.F.slot_str_split PySem.F.type_str_split mt_splitL (pv 0) (pa_cons (pe_glob (v := .str (Str.ofString "\n")) rfl T.g_LINE_END ⟨_, rfl⟩) pa_nil)))
      (pss_cons (ps_for passesOwn_fn rfl (pi_enum rfl T.z_enumerate (pa_cons (pv 1) pa_nil)) (pg_tup (n := 2) rfl (pgs_cons (pg_name (i := 2) sc_read_block.nd rfl (Or.inl rfl)) (pgs_cons (pg_name (i := 3) sc_read_block.nd rfl (Or.inl rfl)) pgs_nil))) (pss_one (ps_if (PW.pt (pw_or (pt_cmpR op_ne (pe_callB (call_len) rfl T.z_len bo_len (pa_cons (pv 3) pa_nil)) (pe_callB (call_len) rfl T.z_len bo_len (pa_cons (pe_ix ix_list (pv 1) pe_int (fun _ _ => rfl)) pa_nil)) (nomark _)) (pw_or1 (pt_not (pt_val (pe_call G_are_things (hr.mono (by decide)) rfl D_are_things.m D_are_things.fn.kp D_are_things.b .nil pass0 (pa_cons (pv 3) pa_nil))))))) (pss_one (ps_raiseI lets_fn M_NoText G_NoText___init__ (hr.mono (by decide)) D_NoText___init__.b rfl rfl T.mg_NoText (pa_cons (pv 2) pa_nil))) pss_nil)))
      (pss_one (ps_ret (pe_make M_Block G_Block___init__ (hr.mono (by decide)) rfl T.mg_Block D_Block___init__.b .nil (Lets.passes lets_fn) (pa_cons (pv 1) pa_nil)))))), ?_⟩
    refine ⟨_, rfl, rfl, jn rs, 10, rfl, rfl, hzj, fun l hln => ?_⟩
    rw [show Txt.split (jn rs) ⟨#[10]⟩ = rs from split_lines L.ne L.free]
    have s1 : Same H (upd H l (.lst (rs.map V.str))) := Same.upd hln
    have hl1 : upd H l (.lst (rs.map V.str)) l = some (.lst (rs.map V.str)) := upd_same
    generalize upd H l (.lst (rs.map V.str)) = H1 at s1 hl1 ⊢
    refine ⟨_, rfl, .lst l, _, rfl, SqL.of hl1, for_enum (K := K) (c := .lst l) (xs := rs.map V.str) (fun i σ H2 => ∃ v2 v3, σ = [some (.str (jn rs)), some (.ref l), v2, v3] ∧ Same H1 H2 ∧ ∀ m r, m < i → rs[m]? = some r → gdB rs r = true) ⟨_, _, rfl, Same.refl _, fun m r z => absurd z (Nat.not_lt_zero _)⟩ (fun i σ H2 _ ⟨_, _, _, s2, _⟩ => SqL.of (s2 _ _ hl1)) ?_ ?_⟩
    · rintro i y p1 σ H2 hy hp1 ⟨v2, v3, rfl, s2, hgd⟩
      obtain ⟨z, hzr, rfl⟩ := map_at hy
      have hz := hS.row z (List.mem_of_getElem? hzr)
      have hi : i < rs.length := (List.getElem?_eq_some_iff.mp hzr).1
      have s3 := s2.trans (Same.upd (o := .tup [.int (i : Int), .str z]) hp1)
      have next : gdB rs z = true → ∀ m r, m < i + 1 → rs[m]? = some r → gdB rs r = true := fun hg m r hm hr => by
        by_cases e : m = i
        · subst e
          rw [hzr] at hr
          cases hr
          exact hg
        · exact hgd m r (by omega) hr
      refine ⟨p1, _, rfl, SqT.of upd_same, rfl, _, _, rfl, _, _, rfl, rfl, ?_⟩
      have fin : ∀ (D : Ends) (σ : St) (H5 : Hp), σ[2]? = some (some (.int (i : Int))) → Same H1 H5 → gdB rs z = false → tRaiseI p.C_NoText (spNoText p.C_NoText) (fun _ => E) (tCons (tVar 2) tNil) D σ H5 := fun D σ H5 hσ s5 hb => by
        refine ⟨_, hσ, by show 1 ≤ sizeLine; decide, fun e hn => ?_⟩
        have s05 := s1.trans s5
        have hne : H e = none := Same.free s05 hn
        refine ⟨e, i, rfl, upd_same, by omega, fun dx H' hk hdx hx hd => ⟨rfl, some dx, hx, kt i ⟨⟨z, hzr, hb⟩, hgd⟩ dx _ (fun b u hb => ?_) ?_⟩⟩
        · have nb : b ≠ e := fun z => by rw [z, hne] at hb; cases hb
          rw [del_ne nb]
          exact hk b u (by rw [upd_ne nb]; exact s05 b u hb) nb
        · have ne : dx ≠ e := fun z => by rw [z, upd_same] at hdx; cases hdx
          rw [del_ne ne]
          exact hd
      refine ⟨_, rfl, _, _, rfl, ⟨Nat.le_trans hz (by decide), rfl⟩, _, rfl, l, _, _, .str (rs.headD ⟨#[]⟩), rfl, rfl, SqL.of (s3 _ _ hl1), atI_nat (j := 0) (by rw [List.getElem?_map, hr0]; rfl), _, _, rfl, ⟨Nat.le_trans hz0 (by decide), rfl⟩, rfl, _, rfl, ?_⟩
      refine ite_ne (fun h1 => ?_) fun h1 => ?_
      · exact fin { nx := fun _ _ => True, rt := fun _ _ => True } _ _ rfl s3 (by unfold gdB; rw [decide_eq_false (show ¬ z.cps.size = wid rs from fun e => h1 (congrArg Nat.cast e))]; rfl)
      · have hw : z.cps.size = wid rs := Int.ofNat.inj h1
        refine ⟨_, rfl, z, rfl, hz, fun H3 s4 => ⟨_, rfl, ?_⟩⟩
        have s5 := s3.trans s4
        cases e : thingsB z with
        | true => exact iteNT ⟨_, _, rfl, s5, next (by unfold gdB; rw [decide_eq_true hw, e]; rfl)⟩
        | false => exact iteNF (fin { nx := fun _ _ => True, rt := fun _ _ => True } _ _ rfl s5 (by unfold gdB; rw [decide_eq_true hw, e]; rfl))
    · rintro σ H2 ⟨v2, v3, rfl, s2, hgd⟩
      rw [List.length_map] at hgd
      have hall : ∀ r ∈ rs, gdB rs r = true := fun r hr => by
        obtain ⟨m, hm, e⟩ := List.getElem_of_mem hr
        exact hgd m r hm (by rw [List.getElem?_eq_getElem hm, e])
      obtain ⟨g1, g2⟩ := gd_lenB L.ne hall
      have s02 := s1.trans s2
      refine ⟨_, rfl, fun o dx ho hdx ndx => ?_⟩
      have s7 : Same H2 (upd (upd H2 dx (.own o)) o (.ins p.C_Block dx [])) := Same.at (Same.upd hdx) ho
      refine ⟨o, dx, _, rs, rfl, upd_same, ⟨l, rfl, .inl (SqL.of (s7 _ _ (s2 _ _ hl1)))⟩, hS, fun hb H8 q1 q2 => ⟨rfl, ?_⟩, fun hb H8 s8 => ?_⟩
      · refine kq hall ?_ o H8 (s02.trans fun c u hc => q1 _ _ (s7 _ _ hc) (fun z => by rw [z, ho] at hc; cases hc)) (Same.free s02 ho) q2
        unfold blockB at hb
        rw [g1, g2, Bool.true_and, Bool.true_and] at hb
        exact hb
      · refine kb hall ?_ H8 ((s02.trans s7).trans s8)
        unfold blockB at hb
        rw [g1, g2, Bool.true_and, Bool.true_and] at hb
        exact hb
theorem ok_check_two_rows {f_check_two_rows f_NoText___init__ : Addr} {fd_check_two_rows fd_NoText___init__ : FuncData} {p : Pm} (T : Txt K mg p w) (D_check_two_rows : Dn K mg "check_two_rows" s_check_two_rows ["text"] f_check_two_rows fd_check_two_rows) (D_NoText___init__ : Dm K "__init__" "NoText.__init__" s_NoText___init__ ["self", "line"] f_NoText___init__ fd_NoText___init__) (M_NoText : XMk K p.C_NoText f_NoText___init__) (G_NoText___init__ : FnOk P w K mg base (CXs P w) 1 f_NoText___init__ fd_NoText___init__ ["self", "line"] (spNoText p.C_NoText)) : FnOk P w K mg base (CXs P w) 3 f_check_two_rows fd_check_two_rows ["text"] (spTwoRows p.C_NoText) := by
  refine D_check_two_rows.fn.okX sc_check_two_rows (fun vs H Q E h => ?_) (fun cdv A outer s H vs Q E hr h => ?_)
  · obtain ⟨rs, rfl, _⟩ := h
    rfl
  · obtain ⟨rs, rfl, L, kq, kt⟩ := h
    refine ⟨_, (pss_one (ps_if (pt_cmpR op_ne (pe_bm PySem.F.plainAttrs_str PySem.F.slot_str_count PySem.F.type_str_count mt_countL (pv 0) (pa_cons (pe_glob (v := .str (Str.ofString "\n")) rfl T.g_LINE_END ⟨_, rfl⟩) pa_nil)) pe_int (nomark _)) (pss_one (ps_raiseI lets_fn M_NoText G_NoText___init__ (hr.mono (by decide)) D_NoText___init__.b rfl rfl T.mg_NoText (pa_cons pe_int pa_nil))) pss_nil)), ?_⟩
    refine ⟨_, rfl, rfl, jn rs, 10, rfl, rfl, rfl, _, rfl, ?_⟩
    rw [show Txt.count (jn rs) ⟨#[10]⟩ = ((rs.length - 1 : Nat) : Int) from count_lines L.ne L.free]
    have hpos := List.length_pos_iff.mpr L.ne
    refine ite_ne (fun h1 => ?_) fun h1 => ?_
    · refine ⟨by show 1 ≤ sizeLine; decide, fun e hn => ?_⟩
      refine ⟨e, 2, rfl, upd_same, by omega, fun dx H' hk hdx hx hd => ⟨rfl, some dx, hx, kt (fun z => h1 ?_) dx _ (fun b u hb => ?_) ?_⟩⟩
      · rw [z]
        rfl
      · have nb : b ≠ e := fun z => by rw [z, hn] at hb; cases hb
        rw [del_ne nb]
        exact hk b u (by rw [upd_ne nb]; exact hb) nb
      · have ne : dx ≠ e := fun z => by rw [z, upd_same] at hdx; cases hdx
        rw [del_ne ne]
        exact hd
    · have h1' : ((rs.length - 1 : Nat) : Int) = 1 := h1
      exact kq (by omega)
theorem ok_move_of {f_move_of : Addr} {fd_move_of : FuncData} {p : Pm} (T : Txt K mg p w) (D_move_of : Dn K mg "move_of" s_move_of ["column"] f_move_of fd_move_of)  : FnOk P w K mg base CX0 1 f_move_of fd_move_of ["column"] spMoveOf := by
  refine D_move_of.fn.ok sc_move_of (fun vs H Q E h => ?_) (fun cdv A outer s H vs Q E hr h => ?_)
  · obtain ⟨a, b, rfl, _⟩ := h
    rfl
  · obtain ⟨a, b, rfl, k⟩ := h
    refine ⟨_, (pss_cons (ps_if (pt_cmpR op_eq (pe_ix ix_str (pv 0) pe_int (fun _ _ => rfl)) (pe_glob (v := .str (Str.ofString "-")) rfl T.g_GAP ⟨_, rfl⟩) (nomark _)) (pss_one (ps_ret pe_str)) pss_nil)
      (pss_one (ps_ret (pe_ifExp (pt_cmpR op_eq (pe_ix ix_str (pv 0) pe_int (fun _ _ => rfl)) (pe_glob (v := .str (Str.ofString "-")) rfl T.g_GAP ⟨_, rfl⟩) (nomark _)) pe_str pe_str)))), ?_⟩
    unfold mvC at k
    refine ⟨_, rfl, ⟨#[a, b]⟩, _, b, rfl, rfl, (by show 2 ≤ sizeLine; decide), rfl, rfl, _, rfl, ?_⟩
    rw [gapD]
    by_cases hb : b = 45
    · rw [if_pos hb] at k
      rw [decide_eq_true hb]
      exact iteT k
    · rw [if_neg hb] at k
      rw [decide_eq_false hb]
      refine iteF ⟨_, rfl, ⟨#[a, b]⟩, _, a, rfl, rfl, (by show 2 ≤ sizeLine; decide), rfl, rfl, _, rfl, ?_⟩
      rw [gapD]
      by_cases ha : a = 45
      · rw [if_pos ha] at k
        rw [decide_eq_true ha]
        exact iteT k
      · rw [if_neg ha] at k
        rw [decide_eq_false ha]
        exact iteF k
end
section
variable {P : Program} {w : World} {K : PySem.W.Frag} {mg : Str → Option Value} {base : Heap}
theorem ok_laid_columns {f_laid_columns f_place_behind : Addr} {fd_laid_columns fd_place_behind : FuncData} {p : Pm} (T : Txt K mg p w) (D_laid_columns : Dn K mg "laid_columns" s_laid_columns ["ones", "others", "one_gaps", "other_gaps", "moves"] f_laid_columns fd_laid_columns) (D_place_behind : Dn K mg "place_behind" s_place_behind ["place", "move"] f_place_behind fd_place_behind) (G_place_behind : FnOk P w K mg base CX0 1 f_place_behind fd_place_behind ["place", "move"] (spBehind K)) : FnOk P w K mg base CX0 2 f_laid_columns fd_laid_columns ["ones", "others", "one_gaps", "other_gaps", "moves"] (spLaidC K) := by
  refine D_laid_columns.fn.ok sc_laid_columns (fun vs H Q E h => ?_) (fun cdv A outer s H vs Q E hr h => ?_)
  · obtain ⟨f, s, mv, g, h, rfl, _⟩ := h
    rfl
  · obtain ⟨f, s, mv, g, h, rfl, L, hm, k⟩ := h
    refine ⟨_, (pss_cons (ps_set (i := 5) sc_laid_columns.nd rfl (Or.inl rfl) (pe_lst pa_nil))
      (pss_cons (ps_set (i := 6) sc_laid_columns.nd rfl (Or.inl rfl) (pe_tup (pa_cons pe_int (pa_cons pe_int pa_nil))))
      (pss_cons (ps_for PassesOwn.never rfl (pi_txt (pv 4)) (pg_name (i := 7) sc_laid_columns.nd rfl (Or.inl rfl)) (pss_cons (ps_set (i := 8) sc_laid_columns.nd rfl (Or.inl rfl) (pe_kget (pe_glob (v := .ref p.a_STEPS) rfl T.g_STEPS rfl) (pv 7) (fun _ _ => rfl)))
      (pss_mid (ps_set (i := 9) sc_laid_columns.nd rfl (Or.inl rfl) (pe_ifExp (pt_cmpR op_eq (pe_ix ix_tup (pv 8) pe_int (fun _ _ => rfl)) pe_int (nomark _)) (pe_ix ix_str (pv 0) (pe_ix ix_tup (pv 6) pe_int (fun _ _ => rfl)) (fun _ _ => rfl)) (pv 2)))
      (pss_mid (ps_set (i := 10) sc_laid_columns.nd rfl (Or.inl rfl) (pe_ifExp (pt_cmpR op_eq (pe_ix ix_tup (pv 8) pe_int (fun _ _ => rfl)) pe_int (nomark _)) (pe_ix ix_str (pv 1) (pe_ix ix_tup (pv 6) pe_int (fun _ _ => rfl)) (fun _ _ => rfl)) (pv 3)))
      (pss_cons (ps_expr (pe_bm PySem.F.plainAttrs_list PySem.F.slot_list_append PySem.F.type_list_append mt_append (pv 5) (pa_cons (pe_op op_add_str (pv 9) (pv 10)) pa_nil)))
      (pss_one (ps_set (i := 6) sc_laid_columns.nd rfl (Or.inl rfl) (pe_call G_place_behind (hr.mono (by decide)) rfl D_place_behind.m D_place_behind.fn.kp D_place_behind.b .nil pass0 (pa_cons (pv 6) (pa_cons (pv 7) pa_nil))))))))))
      (pss_one (ps_ret (pv 5)))))), ?_⟩
    have hlen : g.length = mv.cps.size ∧ h.length = mv.cps.size := by
      have z := L.len
      rw [show mv.cps.toList.length = mv.cps.size from Array.length_toList] at z
      exact z
    have hway := L.way
    rw [Array.length_toList, Array.length_toList, Array.length_toList] at hway
    have hfs : f.cps.size ≤ 100 ∧ s.cps.size ≤ 100 := by
      have e := L.bare
      rw [← Array.length_toList (xs := f.cps), ← Array.length_toList (xs := s.cps), ← e.1, ← e.2]
      exact ⟨Nat.le_trans (List.length_filter_le _ _) (by rw [hlen.1]; exact hm), Nat.le_trans (List.length_filter_le _ _) (by rw [hlen.2]; exact hm)⟩
    refine ⟨by show 0 ≤ sizeLine; decide, fun l hl => ?_⟩
    refine ⟨by show 2 ≤ sizeLine; decide, fun q0 hq0 => ?_⟩
    have s1 : Same H (upd (upd H l (.lst [])) q0 (.tup [.int 0, .int 0])) := (Same.upd hl).trans (Same.upd hq0)
    have nq : l ≠ q0 := fun z => by rw [← z, upd_same] at hq0; cases hq0
    refine ⟨_, rfl, mv, rfl, for_txt (x := mv) (fun i σ H2 => ∃ (q : Addr) (v7 v8 v9 v10 : Option V), σ = [some (.str f), some (.str s), some (.str (Str.ofString "-")), some (.str (Str.ofString "-")), some (.str mv), some (.ref l), some (.ref q), v7, v8, v9, v10] ∧ H2 l = some (.lst ((List.range i).map fun k => V.str (lcolS g h k))) ∧ TupAt H2 q (pla (0, 0) mv.cps.toList i) ∧ Same H H2)
      ⟨q0, _, _, _, _, rfl, by rw [upd_ne nq]; exact upd_same, upd_same, s1⟩ ?_ ?_⟩
    · rintro i c σ H2 hc ⟨q, v7, v8, v9, v10, rfl, hl2, tq, s2⟩
      have hi := cps_lt hc
      have hcl := cps_list hc
      obtain ⟨w1, w2, w3, w4⟩ := hway i (by omega)
      obtain ⟨n1, hn1⟩ : ∃ n : Nat, (pla (0, 0) mv.cps.toList i).1 = (n : Int) := ⟨_, (Int.toNat_of_nonneg w1).symm⟩
      obtain ⟨n2, hn2⟩ : ∃ n : Nat, (pla (0, 0) mv.cps.toList i).2 = (n : Int) := ⟨_, (Int.toNat_of_nonneg w3).symm⟩
      have hat := L.at i c hcl
      rw [hn1, hn2, Int.toNat_natCast, Int.toNat_natCast] at hat
      obtain ⟨v, st, hv, hst, hmo, ha, hb⟩ : ∃ (v : Addr) (st : Fra), valV [(Sum.inr (Str.ofString "p"), V.ref p.v_STEPS0), (Sum.inr (Str.ofString "a"), V.ref p.v_STEPS1), (Sum.inr (Str.ofString "b"), V.ref p.v_STEPS2)] (Sum.inr ⟨#[c]⟩ : Key) = some (.ref v) ∧ (∀ H : Hp, SqT K H v [.int st.1, .int st.2]) ∧ mvOk c ∧
          ((st.1 = 1 ∧ ∃ a, f.cps.toList[n1]? = some a ∧ g.getD i 0 = a) ∨ (st.1 = 0 ∧ g.getD i 0 = 45)) ∧ ((st.2 = 1 ∧ ∃ b, s.cps.toList[n2]? = some b ∧ h.getD i 0 = b) ∨ (st.2 = 0 ∧ h.getD i 0 = 45)) := by
        rcases hat with ⟨rfl, a, b, h1, h2, h3, h4, _, _⟩ | ⟨rfl, a, h1, h3, h4, _⟩ | ⟨rfl, b, h2, h3, h4, _⟩
        · exact ⟨p.v_STEPS0, (1, 1), valV_pos (show (Sum.inr (Str.ofString "p") : Key) = Sum.inr ⟨#[112]⟩ by decide +kernel), T.q_STEPS0, .inl rfl, .inl ⟨rfl, a, h1, getD_of h3⟩, .inl ⟨rfl, b, h2, getD_of h4⟩⟩
        · exact ⟨p.v_STEPS1, (1, 0), (valV_neg (show ¬ (Sum.inr (Str.ofString "p") : Key) = Sum.inr ⟨#[97]⟩ by decide +kernel)).trans (valV_pos (show (Sum.inr (Str.ofString "a") : Key) = Sum.inr ⟨#[97]⟩ by decide +kernel)), T.q_STEPS1, .inr (.inl rfl), .inl ⟨rfl, a, h1, getD_of h3⟩, .inr ⟨rfl, getD_of h4⟩⟩
        · exact ⟨p.v_STEPS2, (0, 1), (valV_neg (show ¬ (Sum.inr (Str.ofString "p") : Key) = Sum.inr ⟨#[98]⟩ by decide +kernel)).trans ((valV_neg (show ¬ (Sum.inr (Str.ofString "a") : Key) = Sum.inr ⟨#[98]⟩ by decide +kernel)).trans (valV_pos (show (Sum.inr (Str.ofString "b") : Key) = Sum.inr ⟨#[98]⟩ by decide +kernel))), T.q_STEPS2, .inr (.inr rfl), .inr ⟨rfl, getD_of h3⟩, .inl ⟨rfl, b, h2, getD_of h4⟩⟩
      refine ⟨_, rfl, p.a_STEPS, _, .inr ⟨#[c]⟩, _, rfl, rfl, T.kd_STEPS P, hv, ?_⟩
      have zf : f.length ≤ sizeLine := Nat.le_trans hfs.1 (by decide)
      have zs : s.length ≤ sizeLine := Nat.le_trans hfs.2 (by decide)
      -- left
      refine ⟨fun σ' H' => H' = H2 ∧ σ' = [some (.str f), some (.str s), some (.str (Str.ofString "-")), some (.str (Str.ofString "-")), some (.str mv), some (.ref l), some (.ref q), some (.str ⟨#[c]⟩), some (.ref v), some (.str ⟨#[g.getD i 0]⟩), v10], ?_, ?_⟩
      · refine ⟨_, rfl, v, _, _, _, rfl, rfl, hst _, rfl, rfl, _, rfl, ?_⟩
        rcases ha with ⟨e1, a, e2, e3⟩ | ⟨e1, e3⟩
        · rw [e1, decide_eq_true rfl]
          refine iteT ⟨_, rfl, _, rfl, q, _, _, _, rfl, rfl, tq.fr, rfl, f, _, a, rfl, rfl, zf, (by rw [hn1]; exact atI_nat e2), rfl, ?_⟩
          rw [e3]; rfl
        · rw [e1, decide_eq_false (show ¬ V.int 0 = V.int 1 by decide)]
          refine iteF ⟨_, rfl, rfl, ?_⟩
          rw [e3]; rfl
      rintro σ' H3 ⟨rfl, rfl⟩
      -- right
      refine ⟨fun σ' H' => H' = H3 ∧ σ' = [some (.str f), some (.str s), some (.str (Str.ofString "-")), some (.str (Str.ofString "-")), some (.str mv), some (.ref l), some (.ref q), some (.str ⟨#[c]⟩), some (.ref v), some (.str ⟨#[g.getD i 0]⟩), some (.str ⟨#[h.getD i 0]⟩)], ?_, ?_⟩
      · refine ⟨_, rfl, v, _, _, _, rfl, rfl, hst _, rfl, rfl, _, rfl, ?_⟩
        rcases hb with ⟨e1, a, e2, e3⟩ | ⟨e1, e3⟩
        · rw [e1, decide_eq_true rfl]
          refine iteT ⟨_, rfl, _, rfl, q, _, _, _, rfl, rfl, tq.fr, rfl, s, _, a, rfl, rfl, zs, (by rw [hn2]; exact atI_nat e2), rfl, ?_⟩
          rw [e3]; rfl
        · rw [e1, decide_eq_false (show ¬ V.int 0 = V.int 1 by decide)]
          refine iteF ⟨_, rfl, rfl, ?_⟩
          rw [e3]; rfl
      rintro σ' H4 ⟨rfl, rfl⟩
      refine ⟨_, rfl, .inl ⟨rfl, _, SqL.of hl2⟩, _, rfl, _, rfl, _, _, rfl, rfl, (by show 1 + 1 ≤ sizeLine; decide), l, _, _, rfl, rfl, hl2, ?_, ?_⟩
      · rw [List.length_map, List.length_range]
        exact Nat.lt_of_lt_of_le (show i < 1000 by omega) (by decide)
      have tq2 := tq.off (o := .lst ((List.range i).map (fun k => V.str (lcolS g h k)) ++ [V.str (⟨#[g.getD i 0]⟩ ++ ⟨#[h.getD i 0]⟩)])) hl2
      have hl3 : upd H4 l (.lst ((List.range i).map (fun k => V.str (lcolS g h k)) ++ [V.str (⟨#[g.getD i 0]⟩ ++ ⟨#[h.getD i 0]⟩)])) l = some (.lst ((List.range (i + 1)).map fun k => V.str (lcolS g h k))) := by
        rw [upd_same, List.range_succ, List.map_append]
        rfl
      have s3 : Same H (upd H4 l (.lst ((List.range i).map (fun k => V.str (lcolS g h k)) ++ [V.str (⟨#[g.getD i 0]⟩ ++ ⟨#[h.getD i 0]⟩)]))) := Same.at s2 hl
      generalize upd H4 l (.lst ((List.range i).map (fun k => V.str (lcolS g h k)) ++ [V.str (⟨#[g.getD i 0]⟩ ++ ⟨#[h.getD i 0]⟩)])) = H5 at tq2 hl3 s3 ⊢
      refine ⟨_, rfl, _, rfl, q, c, _, rfl, tq2.fr, hmo, fun r hr => ?_⟩
      rw [← pla_succ hcl]
      exact ⟨r, _, _, _, _, rfl, Same.upd hr _ _ hl3, upd_same, s3.trans (Same.upd hr)⟩
    · rintro σ H2 ⟨q, v7, v8, v9, v10, rfl, hl2, tq, s2⟩
      exact ⟨_, rfl, k l H2 s2 hl hl2⟩
theorem ok_written_laying {f_written_laying f_places_of f_may_end f_laid_columns f_turned f_Block___init__ f_written_block : Addr} {fd_written_laying fd_places_of fd_may_end fd_laid_columns fd_turned fd_Block___init__ fd_written_block : FuncData} {p : Pm} (T : Txt K mg p w) (D_written_laying : Dn K mg "written_laying" s_written_laying ["first", "second", "moves"] f_written_laying fd_written_laying) (D_places_of : Dn K mg "places_of" s_places_of ["first", "second", "begin", "moves"] f_places_of fd_places_of) (G_places_of : FnOk P w K mg base CX0 2 f_places_of fd_places_of ["first", "second", "begin", "moves"] (spPlaces K)) (D_may_end : Dn K mg "may_end" s_may_end ["manner", "first", "second", "place"] f_may_end fd_may_end) (G_may_end : FnOk P w K mg base CX0 1 f_may_end fd_may_end ["manner", "first", "second", "place"] (spMayE K)) (D_laid_columns : Dn K mg "laid_columns" s_laid_columns ["ones", "others", "one_gaps", "other_gaps", "moves"] f_laid_columns fd_laid_columns) (G_laid_columns : FnOk P w K mg base CX0 2 f_laid_columns fd_laid_columns ["ones", "others", "one_gaps", "other_gaps", "moves"] (spLaidC K)) (D_turned : Dn K mg "turned" s_turned ["texts", "many"] f_turned fd_turned) (G_turned : FnOk P w K mg base CX0 2 f_turned fd_turned ["texts", "many"] (spTurned K)) (D_Block___init__ : Dm K "__init__" "Block.__init__" s_Block___init__ ["self", "rows"] f_Block___init__ fd_Block___init__) (M_Block : Mk K p.C_Block f_Block___init__) (G_Block___init__ : FnOk P w K mg base CX0 5 f_Block___init__ fd_Block___init__ ["self", "rows"] (nv (spBlock K p.C_Block p.C_NoBlock))) (D_written_block : Dn K mg "written_block" s_written_block ["block"] f_written_block fd_written_block) (G_written_block : FnOk P w K mg base CX0 1 f_written_block fd_written_block ["block"] (spWrB K p.C_Block)) : FnOk P w K mg base CX0 7 f_written_laying fd_written_laying ["first", "second", "moves"] (spWrL K) := by
  refine D_written_laying.fn.ok sc_written_laying (fun vs H Q E h => ?_) (fun cdv A outer s H vs Q E hr h => ?_)
  · obtain ⟨f, s, mv, g, h, rfl, _⟩ := h
    rfl
  · obtain ⟨f, s, mv, g, h, rfl, L, hm, k⟩ := h
    have hlen : g.length = mv.cps.size ∧ h.length = mv.cps.size := by
      have z := L.len
      rw [show mv.cps.toList.length = mv.cps.size from Array.length_toList] at z
      exact z
    have hway := L.way
    rw [Array.length_toList, Array.length_toList, Array.length_toList] at hway
    have hfs : f.cps.size ≤ 100 ∧ s.cps.size ≤ 100 := by
      have e := L.bare
      rw [← Array.length_toList (xs := f.cps), ← Array.length_toList (xs := s.cps), ← e.1, ← e.2]
      exact ⟨Nat.le_trans (List.length_filter_le _ _) (by rw [hlen.1]; exact hm), Nat.le_trans (List.length_filter_le _ _) (by rw [hlen.2]; exact hm)⟩
    have W : Way f s (0, 0) mv := ⟨by omega, by omega, by omega, L.ok.2.2.1, hway⟩
    have hpl := L.pl
    rw [Array.length_toList, Array.length_toList, Array.length_toList] at hpl
    refine ⟨_, (pss_cons (ps_set (i := 3) sc_written_laying.nd rfl (Or.inl rfl) (pe_ix ix_list (pe_call G_places_of (hr.mono (by decide)) rfl D_places_of.m D_places_of.fn.kp D_places_of.b .nil pass0 (pa_cons (pv 0) (pa_cons (pv 1) (pa_cons (pe_tup (pa_cons pe_int (pa_cons pe_int pa_nil))) (pa_cons (pv 2) pa_nil))))) (pe_un un_neg pe_int) (fun _ _ => rfl)))
      (pss_cons (ps_if (pt_not (pt_val (pe_call G_may_end (hr.mono (by decide)) rfl D_may_end.m D_may_end.fn.kp D_may_end.b .nil pass0 (pa_cons pe_str (pa_cons (pv 0) (pa_cons (pv 1) (pa_cons (pv 3) pa_nil))))))) pss_never pss_nil)
      (pss_cons (ps_set (i := 4) sc_written_laying.nd rfl (Or.inl rfl) (pe_call G_laid_columns (hr.mono (by decide)) rfl D_laid_columns.m D_laid_columns.fn.kp D_laid_columns.b .nil pass0 (pa_cons (pv 0) (pa_cons (pv 1) (pa_cons (pe_glob (v := .str (Str.ofString "-")) rfl T.g_GAP ⟨_, rfl⟩) (pa_cons (pe_glob (v := .str (Str.ofString "-")) rfl T.g_GAP ⟨_, rfl⟩) (pa_cons (pv 2) pa_nil)))))))
      (pss_one (ps_ret (pe_call G_written_block (hr.mono (by decide)) rfl D_written_block.m D_written_block.fn.kp D_written_block.b .nil pass0 (pa_cons (pe_make M_Block G_Block___init__ (hr.mono (by decide)) rfl T.mg_Block D_Block___init__.b .nil pass0 (pa_cons (pe_call G_turned (hr.mono (by decide)) rfl D_turned.m D_turned.fn.kp D_turned.b .nil pass0 (pa_cons (pv 4) (pa_cons pe_int pa_nil))) pa_nil)) pa_nil))))))), ?_⟩
    refine ⟨_, rfl, _, rfl, by show 2 ≤ sizeLine; decide, fun q0 hq0 => ?_⟩
    have t0 : TupAt (upd H q0 (.tup [.int 0, .int 0])) q0 (0, 0) := upd_same
    have s1 : Same H (upd H q0 (.tup [.int 0, .int 0])) := Same.upd hq0
    generalize upd H q0 (.tup [.int 0, .int 0]) = H1 at t0 s1 ⊢
    refine ⟨_, rfl, f, s, q0, (0, 0), mv, rfl, t0.fr, W, fun l H2 qs s2 hl hql hts => ?_⟩
    have hq : mv.cps.size < qs.length := by omega
    have hqq := List.getElem?_eq_getElem hq
    have tq := hts _ _ hqq
    generalize qs[mv.cps.size] = q at hqq tq
    rw [hpl] at tq
    refine ⟨_, rfl, l, _, _, .ref q, rfl, rfl, SqL.of hl, ?_, ?_⟩
    · rw [show qs = qs.take mv.cps.size ++ [q] by
        have z := List.take_append_drop mv.cps.size qs
        rw [List.drop_eq_getElem_cons hq, List.drop_of_length_le (by omega)] at z
        rw [List.getElem?_eq_getElem hq] at hqq
        cases hqq
        exact z.symm, List.map_append]
      exact atI_last _ _
    refine ⟨_, rfl, _, rfl, _, rfl, _, f, s, q, _, rfl, tq.fr, by omega, by omega, ?_⟩
    have e1 : mayE (Str.ofString "whole") f s ((f.cps.size : Int), (s.cps.size : Int)) = true := by
      unfold mayE
      rw [if_pos rfl, decide_eq_true rfl, decide_eq_true rfl]
      rfl
    rw [e1]
    refine ⟨_, rfl, iteNT ?_⟩
    refine ⟨_, rfl, _, rfl, _, rfl, f, s, mv, g, h, rfl, L, hm, fun lc H3 s3 hlcn hlc => ?_⟩
    have ec := lcol_cols L
    rw [Array.length_toList] at ec
    have hR := L.rs
    rw [Array.length_toList] at hR
    have hS2 : SmR [(⟨g.toArray⟩ : Str), ⟨h.toArray⟩] := ⟨by show 2 ≤ 100; decide, fun r hr => by rw [hR.wid r hr]; omega⟩
    refine ⟨_, rfl, .ref lc, (List.range mv.cps.size).map (lcolS g h), 2, rfl, ⟨lc, rfl, .inl (SqL.of (by rw [hlc, List.map_map]; rfl))⟩, ⟨by rw [List.length_map, List.length_range]; exact hm, fun r hr => ?_⟩, by decide, fun r hr => ?_, fun lt H4 s4 hltn hlt => ?_⟩
    · obtain ⟨k, _, rfl⟩ := List.mem_map.mp hr
      show 2 ≤ 1000; decide
    · obtain ⟨k, _, rfl⟩ := List.mem_map.mp hr
      show 2 ≤ 2; decide
    rw [ec] at hlt
    intro o dx ho hdx ndx
    have s7 : Same H4 (upd (upd H4 dx (.own o)) o (.ins p.C_Block dx [])) := Same.at (Same.upd hdx) ho
    refine ⟨o, dx, _, _, rfl, upd_same, ⟨lt, rfl, .inl (SqL.of (s7 _ _ hlt))⟩, hS2, fun hb H8 q1 q2 => ⟨rfl, o, _, rfl, q2, hS2, k H8 ?_⟩, fun z => (by rw [hR.block (by decide)] at z; cases z)⟩
    have g2 : Same H4 H8 := fun c u hc => q1 _ _ (s7 _ _ hc) (fun z => by rw [z, ho] at hc; cases hc)
    exact (((s1.trans s2).trans s3).trans s4).trans g2
theorem ok_read_laying {f_read_laying f_check_two_rows f_read_block f_columns_of f_move_of f_bare : Addr} {fd_read_laying fd_check_two_rows fd_read_block fd_columns_of fd_move_of fd_bare : FuncData} {p : Pm} (T : Txt K mg p w) (D_read_laying : Dn K mg "read_laying" s_read_laying ["text"] f_read_laying fd_read_laying) (D_check_two_rows : Dn K mg "check_two_rows" s_check_two_rows ["text"] f_check_two_rows fd_check_two_rows) (G_check_two_rows : FnOk P w K mg base (CXs P w) 3 f_check_two_rows fd_check_two_rows ["text"] (spTwoRows p.C_NoText)) (D_read_block : Dn K mg "read_block" s_read_block ["text"] f_read_block fd_read_block) (G_read_block : FnOk P w K mg base (CXs P w) 7 f_read_block fd_read_block ["text"] (spReadB K p.C_Block p.C_NoBlock p.C_NoText)) (D_columns_of : Dn K mg "columns_of" s_columns_of ["rows"] f_columns_of fd_columns_of) (G_columns_of : FnOk P w K mg base CX0 3 f_columns_of fd_columns_of ["rows"] (spColumns K)) (D_move_of : Dn K mg "move_of" s_move_of ["column"] f_move_of fd_move_of) (G_move_of : FnOk P w K mg base CX0 1 f_move_of fd_move_of ["column"] spMoveOf) (D_bare : Dn K mg "bare" s_bare ["block", "row"] f_bare fd_bare) (G_bare : FnOk P w K mg base (CXs P w) 2 f_bare fd_bare ["block", "row"] (spBare K p.C_Block p.C_NoRow)) : FnOk P w K mg base (CXs P w) 8 f_read_laying fd_read_laying ["text"] (spReadL K p.C_NoBlock p.C_NoText) := by
  refine D_read_laying.fn.okX sc_read_laying (fun vs H Q E h => ?_) (fun cdv A outer s H vs Q E hr h => ?_)
  · obtain ⟨rs, rfl, _⟩ := h
    rfl
  · obtain ⟨rs, rfl, L, kq, k2, kt, kb⟩ := h
    refine ⟨_, (pss_cons (ps_expr (pe_call G_check_two_rows (hr.mono (by decide)) rfl D_check_two_rows.m D_check_two_rows.fn.kp D_check_two_rows.b .nil (Lets.passes lets_fn) (pa_cons (pv 0) pa_nil)))
      (pss_cons (ps_set (i := 1) sc_read_laying.nd rfl (Or.inl rfl) (pe_call G_read_block (hr.mono (by decide)) rfl D_read_block.m D_read_block.fn.kp D_read_block.b .nil (Lets.passes lets_fn) (pa_cons (pv 0) pa_nil)))
      (pss_cons (ps_set (i := 2) sc_read_laying.nd rfl (Or.inl rfl) (pe_bm PySem.F.plainAttrs_str PySem.F.slot_str_join PySem.F.type_str_join mt_join pe_str (pa_cons (pe_comp (N := ["column"]) rfl (fun _ => ⟨[], CompSc.plain (by decide +kernel) rfl (by decide +kernel) (by decide +kernel)⟩) (pi_list (pe_call G_columns_of (hr.mono (by decide)) rfl D_columns_of.m D_columns_of.fn.kp D_columns_of.b .nil pass0 (pa_cons (pe_fld (pv 1) rfl) pa_nil))) (fun _ _ _ _ _ _ _ => (pg_name (i := 0) (show (["column"] : List Str).Nodup by decide +kernel) rfl (Or.inl rfl))) (fun _ _ _ _ _ _ _ => (pe_call G_move_of (hr.mono (by decide)) rfl D_move_of.m D_move_of.fn.kp D_move_of.b .nil pass0 (pa_cons (pv 0) pa_nil)))) pa_nil)))
      (pss_one (ps_ret (pe_tup (pa_cons (pe_call G_bare (hr.mono (by decide)) rfl D_bare.m D_bare.fn.kp D_bare.b .nil (Lets.passes lets_fn) (pa_cons (pv 1) (pa_cons pe_int pa_nil))) (pa_cons (pe_call G_bare (hr.mono (by decide)) rfl D_bare.m D_bare.fn.kp D_bare.b .nil (Lets.passes lets_fn) (pa_cons (pv 1) (pa_cons pe_int pa_nil))) (pa_cons (pv 2) pa_nil))))))))), ?_⟩
    refine ⟨_, rfl, rs, rfl, L, fun h2 => ?_, k2⟩
    obtain ⟨g, h, rfl⟩ : ∃ g h, rs = [g, h] := by
      match rs, h2 with
      | [g, h], _ => exact ⟨g, h, rfl⟩
    refine ⟨_, rfl, [g, h], rfl, L, fun hg hc b H1 s1 hbn hB => ?_, kt rfl, kb rfl⟩
    obtain ⟨gl, gt⟩ := gd_lenB L.ne hg
    obtain ⟨_, hw⟩ := lenB_iff.mp gl
    have hwd : wid [g, h] ≤ 1000 := L.sm.row g List.mem_cons_self
    obtain ⟨dx, q, hb, hq⟩ := id hB
    refine ⟨rfl, _, rfl, b, _, dx, _, _, rfl, hb, T.cl_Block, T.n_Block_rows, rows_at, .ref q, [g, h], rfl, ⟨q, rfl, .inr hq⟩, L.sm, gl, fun l0 H2 s2 hn2 hl2 => ?_⟩
    refine ⟨l0, rfl, ⟨_, SqL.of hl2⟩, fun l hl => ?_⟩
    refine cm_map (wid [g, h]) (fun k => sg (mvC (g.cps.toList.getD k 0) (h.cps.toList.getD k 0))) hl (Nat.lt_of_le_of_lt hwd (by decide)) (fun j H4 s4 hj => ?_) (fun H4 s4 => ?_) (fun j y H4 H5 R s4 hj hy hR => ?_) fun H4 s4 hl4 => ?_
    · exact ⟨_, _, SqL.of (s4 _ _ hl2), by rw [List.getElem?_map, cols_at hj]; rfl⟩
    · exact ⟨_, SqL.of (s4 _ _ hl2), by rw [List.length_map]; unfold cols; rw [List.length_map, List.length_range]; exact Nat.le_refl _⟩
    · obtain ⟨rfl, hy⟩ := hy
      have ey := hy _ (SqL.of (s4 _ _ hl2))
      rw [List.getElem?_map, cols_at hj] at ey
      cases ey
      refine ⟨Kp.set0, ?_⟩
      exact ⟨_, rfl, g.cps.toList.getD j 0, h.cps.toList.getD j 0, rfl, hR _ (Same.refl _)⟩
    · have s24 := s2.trans s4
      refine ⟨l, (List.range (wid [g, h])).map fun k => mvC (g.cps.toList.getD k 0) (h.cps.toList.getD k 0), rfl, rfl, SqL.of (by rw [hl4, List.map_map]; rfl), by rw [List.length_map, List.length_range]; omega, ?_⟩
      have hB4 := hB.same s24
      refine ⟨_, rfl, b, 0, [g, h], rfl, hB4, L.sm, fun r _ hr => ?_, fun z => (by cases z)⟩
      cases hr
      refine ⟨_, rfl, b, 1, [g, h], rfl, hB4, L.sm, fun r _ hr => ?_, fun z => (by cases z)⟩
      cases hr
      refine ⟨_, rfl, by show 3 ≤ sizeLine; decide, fun t ht => ?_⟩
      exact kq g h rfl hg hc t _ ((s1.trans s24).trans (Same.upd ht)) upd_same
end
section
variable {P : Program} {w : World} {K : PySem.W.Frag} {mg : Str → Option Value} {base : Heap}
theorem ok_law_same_0 {f_law_same : Addr} {fd_law_same : FuncData} {p : Pm} (T : Txt K mg p w) (D_law_same : Dn K mg "_law_same" s_law_same ["_law_found", "_law_due"] f_law_same fd_law_same)  : FnOk P w K mg base CX0 1 f_law_same fd_law_same ["_law_found", "_law_due"] (spSameE K 0) := by
  refine D_law_same.fn.ok sc_law_same (fun vs H Q E h => ?_) (fun cdv A outer s H vs Q E hr h => ?_)
  · obtain ⟨v, u, rfl, _⟩ := h
    rfl
  · obtain ⟨v, u, rfl, hE, k⟩ := h
    refine ⟨_, (pss_cons (ps_if (pt_val (pe_callB (call_isinstS) rfl T.z_isinstance bo_isinstance (pa_cons (pv 1) (pa_cons (pe_bltn (v := .ty "dict") rfl T.z_dict bo_dict rfl) pa_nil)))) pss_never pss_nil)
      (pss_cons (ps_if (PW.pt (pw_or (pt_val (pe_callB (call_isinstS) rfl T.z_isinstance bo_isinstance (pa_cons (pv 1) (pa_cons (pe_bltn (v := .ty "list") rfl T.z_list bo_list rfl) pa_nil)))) (pw_or1 (pt_val (pe_callB (call_isinstS) rfl T.z_isinstance bo_isinstance (pa_cons (pv 1) (pa_cons (pe_bltn (v := .ty "tuple") rfl T.z_tuple bo_tuple rfl) pa_nil))))))) pss_never pss_nil)
      (pss_cons (ps_if (pt_val (pe_callB (call_isinstS) rfl T.z_isinstance bo_isinstance (pa_cons (pv 1) (pa_cons (pe_bltn (v := .ty "str") rfl T.z_str bo_str rfl) pa_nil)))) (pss_one (ps_ret (pe_and (pe_callB (call_isinstS) rfl T.z_isinstance bo_isinstance (pa_cons (pv 0) (pa_cons (pe_bltn (v := .ty "str") rfl T.z_str bo_str rfl) pa_nil))) (pe_one (pe_cmpR op_eq (pv 0) (pv 1) (nomark _)))))) pss_nil)
      (pss_one (ps_ret (pe_and (pe_callB (call_isinstS) rfl T.z_isinstance bo_isinstance (pa_cons (pv 0) (pa_cons (pe_bltn (v := .ty "int") rfl T.z_int bo_int rfl) pa_nil))) (pe_and (pe_not (pe_callB (call_isinstS) rfl T.z_isinstance bo_isinstance (pa_cons (pv 0) (pa_cons (pe_bltn (v := .ty "bool") rfl T.z_bool bo_bool rfl) pa_nil)))) (pe_one (pe_cmpR op_eq (pv 0) (pv 1) (nomark _)))))))))), ?_⟩
    rcases hE with ⟨x, rfl, rfl⟩ | ⟨n, rfl, rfl⟩
    · refine ⟨_, rfl, _, _, _, _, rfl, .inl (.str x), kit_str_dict, _, rfl, iteF ?_⟩
      refine ⟨_, rfl, _, _, _, _, rfl, .inl (.str x), kit_str_list, _, rfl, iteF ?_⟩
      refine ⟨_, rfl, _, _, _, _, rfl, .inl (.str x), kit_str_tuple, _, rfl, iteF ?_⟩
      refine ⟨_, rfl, _, _, _, _, rfl, .inl (.str x), kit_same, _, rfl, iteT ?_⟩
      refine ⟨_, rfl, _, _, _, _, rfl, .inl (.str x), kit_same, _, rfl, iteT ?_⟩
      refine ⟨_, rfl, _, rfl, rfl, ?_⟩
      rw [decide_eq_true rfl]
      exact k H (Same.refl H)
    · refine ⟨_, rfl, _, _, _, _, rfl, .inl (.int n), kit_int_dict, _, rfl, iteF ?_⟩
      refine ⟨_, rfl, _, _, _, _, rfl, .inl (.int n), kit_int_list, _, rfl, iteF ?_⟩
      refine ⟨_, rfl, _, _, _, _, rfl, .inl (.int n), kit_int_tuple, _, rfl, iteF ?_⟩
      refine ⟨_, rfl, _, _, _, _, rfl, .inl (.int n), kit_int_str, _, rfl, iteF ?_⟩
      refine ⟨_, rfl, _, _, _, _, rfl, .inl (.int n), kit_same, _, rfl, iteT ?_⟩
      refine ⟨_, rfl, _, _, _, _, rfl, .inl (.int n), kit_int_bool, _, rfl, _, rfl, iteT ?_⟩
      refine ⟨_, rfl, _, rfl, rfl, ?_⟩
      rw [decide_eq_true rfl]
      exact k H (Same.refl H)
theorem ok_law_same_1 {f_law_same : Addr} {fd_law_same : FuncData} {p : Pm} (T : Txt K mg p w) (D_law_same : Dn K mg "_law_same" s_law_same ["_law_found", "_law_due"] f_law_same fd_law_same) (G_law_same : FnOk P w K mg base CX0 1 f_law_same fd_law_same ["_law_found", "_law_due"] (spSameE K 0)) : FnOk P w K mg base CX0 2 f_law_same fd_law_same ["_law_found", "_law_due"] (spSameE K 1) := by
  refine D_law_same.fn.ok sc_law_same (fun vs H Q E h => ?_) (fun cdv A outer s H vs Q E hr h => ?_)
  · obtain ⟨v, u, rfl, _⟩ := h
    rfl
  · obtain ⟨v, u, rfl, hE, k⟩ := h
    refine ⟨_, (pss_cons (ps_if (pt_val (pe_callB (call_isinstS) rfl T.z_isinstance bo_isinstance (pa_cons (pv 1) (pa_cons (pe_bltn (v := .ty "dict") rfl T.z_dict bo_dict rfl) pa_nil)))) pss_never pss_nil)
      (pss_cons (ps_if (PW.pt (pw_or (pt_val (pe_callB (call_isinstS) rfl T.z_isinstance bo_isinstance (pa_cons (pv 1) (pa_cons (pe_bltn (v := .ty "list") rfl T.z_list bo_list rfl) pa_nil)))) (pw_or1 (pt_val (pe_callB (call_isinstS) rfl T.z_isinstance bo_isinstance (pa_cons (pv 1) (pa_cons (pe_bltn (v := .ty "tuple") rfl T.z_tuple bo_tuple rfl) pa_nil))))))) (pss_cons (ps_if (PW.pt (pw_and (pt_val (pe_callB (call_isinstS) rfl T.z_isinstance bo_isinstance (pa_cons (pv 1) (pa_cons (pe_bltn (v := .ty "list") rfl T.z_list bo_list rfl) pa_nil)))) (pw_and1 (pt_not (pt_val (pe_callB (call_isinstS) rfl T.z_isinstance bo_isinstance (pa_cons (pv 0) (pa_cons (pe_bltn (v := .ty "list") rfl T.z_list bo_list rfl) pa_nil)))))))) (pss_one (ps_ret pe_bl)) pss_nil)
      (pss_cons (ps_if (PW.pt (pw_or (PW.pt (pw_and (pt_val (pe_callB (call_isinstS) rfl T.z_isinstance bo_isinstance (pa_cons (pv 1) (pa_cons (pe_bltn (v := .ty "tuple") rfl T.z_tuple bo_tuple rfl) pa_nil)))) (pw_and1 (pt_not (pt_val (pe_callB (call_isinstS) rfl T.z_isinstance bo_isinstance (pa_cons (pv 0) (pa_cons (pe_bltn (v := .ty "tuple") rfl T.z_tuple bo_tuple rfl) pa_nil)))))))) (pw_or1 (pt_cmpR op_ne (pe_callB (call_len) rfl T.z_len bo_len (pa_cons (pv 0) pa_nil)) (pe_callB (call_len) rfl T.z_len bo_len (pa_cons (pv 1) pa_nil)) (nomark _))))) (pss_one (ps_ret pe_bl)) pss_nil)
      (pss_one (ps_ret (pe_callB (call_all_bl rfl) rfl T.z_all bo_all (pa_cons (pe_comp (N := ["_law_one_here", "_law_other"]) rfl (fun _ => ⟨[], CompSc.plain (by decide +kernel) rfl (by decide +kernel) (by decide +kernel)⟩) (pi_zip rfl rfl T.z_zip (pa_cons (pv 0) (pa_cons (pv 1) pa_nil))) (fun _ _ _ _ _ _ _ => (pg_tupK (K' := K) (n := 2) rfl rfl (pgs_cons (pg_name (i := 0) (show (["_law_one_here", "_law_other"] : List Str).Nodup by decide +kernel) rfl (Or.inl rfl)) (pgs_cons (pg_name (i := 1) (show (["_law_one_here", "_law_other"] : List Str).Nodup by decide +kernel) rfl (Or.inl rfl)) pgs_nil)))) (fun _ _ _ _ _ _ _ => (pe_call G_law_same (hr.mono (by decide)) rfl D_law_same.m D_law_same.fn.kp D_law_same.b .nil pass0 (pa_cons (pv 0) (pa_cons (pv 1) pa_nil))))) pa_nil)))))) pss_nil)
      (pss_cons (ps_if (pt_val (pe_callB (call_isinstS) rfl T.z_isinstance bo_isinstance (pa_cons (pv 1) (pa_cons (pe_bltn (v := .ty "str") rfl T.z_str bo_str rfl) pa_nil)))) (pss_one (ps_ret (pe_and (pe_callB (call_isinstS) rfl T.z_isinstance bo_isinstance (pa_cons (pv 0) (pa_cons (pe_bltn (v := .ty "str") rfl T.z_str bo_str rfl) pa_nil))) (pe_one (pe_cmpR op_eq (pv 0) (pv 1) (nomark _)))))) pss_nil)
      (pss_one (ps_ret (pe_and (pe_callB (call_isinstS) rfl T.z_isinstance bo_isinstance (pa_cons (pv 0) (pa_cons (pe_bltn (v := .ty "int") rfl T.z_int bo_int rfl) pa_nil))) (pe_and (pe_not (pe_callB (call_isinstS) rfl T.z_isinstance bo_isinstance (pa_cons (pv 0) (pa_cons (pe_bltn (v := .ty "bool") rfl T.z_bool bo_bool rfl) pa_nil)))) (pe_one (pe_cmpR op_eq (pv 0) (pv 1) (nomark _)))))))))), ?_⟩
    rcases hE with (⟨x, rfl, rfl⟩ | ⟨n, rfl, rfl⟩) | ⟨p, q, xs, ys, rfl, rfl, hp, hq, hlen, hl100, hall⟩
    · refine ⟨_, rfl, _, _, _, _, rfl, .inl (.str x), kit_str_dict, _, rfl, iteF ?_⟩
      refine ⟨_, rfl, _, _, _, _, rfl, .inl (.str x), kit_str_list, _, rfl, iteF ?_⟩
      refine ⟨_, rfl, _, _, _, _, rfl, .inl (.str x), kit_str_tuple, _, rfl, iteF ?_⟩
      refine ⟨_, rfl, _, _, _, _, rfl, .inl (.str x), kit_same, _, rfl, iteT ?_⟩
      refine ⟨_, rfl, _, _, _, _, rfl, .inl (.str x), kit_same, _, rfl, iteT ?_⟩
      refine ⟨_, rfl, _, rfl, rfl, ?_⟩
      rw [decide_eq_true rfl]
      exact k H (Same.refl H)
    · refine ⟨_, rfl, _, _, _, _, rfl, .inl (.int n), kit_int_dict, _, rfl, iteF ?_⟩
      refine ⟨_, rfl, _, _, _, _, rfl, .inl (.int n), kit_int_list, _, rfl, iteF ?_⟩
      refine ⟨_, rfl, _, _, _, _, rfl, .inl (.int n), kit_int_tuple, _, rfl, iteF ?_⟩
      refine ⟨_, rfl, _, _, _, _, rfl, .inl (.int n), kit_int_str, _, rfl, iteF ?_⟩
      refine ⟨_, rfl, _, _, _, _, rfl, .inl (.int n), kit_same, _, rfl, iteT ?_⟩
      refine ⟨_, rfl, _, _, _, _, rfl, .inl (.int n), kit_int_bool, _, rfl, _, rfl, iteT ?_⟩
      refine ⟨_, rfl, _, rfl, rfl, ?_⟩
      rw [decide_eq_true rfl]
      exact k H (Same.refl H)
    · have tp : ∀ {H' : Hp} {a : Addr} {zs : List V}, SqT K H' a zs → (TyOf K H' (.ref a) (.type "tuple") ∨ ∃ b ws, V.ref a = .ref b ∧ SqT K H' b ws ∧ Value.type "tuple" = .type "tuple") := fun {H' a zs} z => .inr ⟨a, zs, rfl, z, rfl⟩
      refine ⟨_, rfl, _, _, _, _, rfl, tp hq, kit_tuple_dict, _, rfl, iteF ?_⟩
      refine ⟨_, rfl, _, _, _, _, rfl, tp hq, kit_tuple_list, _, rfl, iteF ?_⟩
      refine ⟨_, rfl, _, _, _, _, rfl, tp hq, kit_same, _, rfl, iteT ?_⟩
      refine ⟨_, rfl, _, _, _, _, rfl, tp hq, kit_tuple_list, _, rfl, iteF ?_⟩
      refine iteF ?_
      refine ⟨_, rfl, _, _, _, _, rfl, tp hq, kit_same, _, rfl, iteT ?_⟩
      refine ⟨_, rfl, _, _, _, _, rfl, tp hp, kit_same, _, rfl, ?_⟩
      refine iteNT ⟨_, rfl, _, _, rfl, .inr ⟨_, hp, rfl⟩, _, rfl, _, _, rfl, .inr ⟨_, hq, rfl⟩, rfl, _, rfl, ?_⟩
      refine ite_ne (fun z => absurd (congrArg Nat.cast hlen) z) fun _ => ?_
      refine ⟨_, rfl, _, rfl, .tup p, .tup q, _, _, rfl, hp, hq, fun l hl => ?_⟩
      refine cm_map xs.length (fun _ => V.bl true) hl (Nat.lt_of_le_of_lt hl100 (by decide)) (fun i H2 s2 hi => ?_) (fun H2 s2 => ⟨_, _, Same.tup s2 hp, Same.tup s2 hq, .inl (Nat.le_refl _)⟩) (fun i z H2 H3 R s2 hi hy hR => ?_) fun H2 s2 hl2 => ?_
      · exact ⟨_, _, _, _, Same.tup s2 hp, Same.tup s2 hq, List.getElem?_eq_getElem hi, List.getElem?_eq_getElem (by rw [← hlen]; exact hi)⟩
      · obtain ⟨p', x', y', rfl, hp', rfl, hxy⟩ := hy
        obtain ⟨ex, ey⟩ := hxy _ _ (Same.tup s2 hp) (Same.tup s2 hq)
        refine ⟨p', _, rfl, SqT.of upd_same, rfl, _, _, rfl, _, _, rfl, rfl, Kp.rep _ _, ?_⟩
        exact ⟨_, rfl, _, rfl, x', y', rfl, (hall i x' y' ex ey).same (s2.trans (Same.upd hp')), fun H5 s5 => hR H5 ((Same.upd hp').trans s5)⟩
      · refine ⟨l, (List.range xs.length).map fun _ => true, rfl, SqL.of (by rw [hl2, List.map_map]; rfl), ?_⟩
        rw [show ((List.range xs.length).map fun _ => true).all id = true from List.all_eq_true.mpr fun b hb => by
          obtain ⟨_, _, rfl⟩ := List.mem_map.mp hb
          rfl]
        exact k H2 s2
theorem ok_law_same_2 {f_law_same : Addr} {fd_law_same : FuncData} {p : Pm} (T : Txt K mg p w) (D_law_same : Dn K mg "_law_same" s_law_same ["_law_found", "_law_due"] f_law_same fd_law_same) (G_law_same : FnOk P w K mg base CX0 2 f_law_same fd_law_same ["_law_found", "_law_due"] (spSameE K 1)) : FnOk P w K mg base CX0 3 f_law_same fd_law_same ["_law_found", "_law_due"] (spSameE K 2) := by
  refine D_law_same.fn.ok sc_law_same (fun vs H Q E h => ?_) (fun cdv A outer s H vs Q E hr h => ?_)
  · obtain ⟨v, u, rfl, _⟩ := h
    rfl
  · obtain ⟨v, u, rfl, hE, k⟩ := h
    refine ⟨_, (pss_cons (ps_if (pt_val (pe_callB (call_isinstS) rfl T.z_isinstance bo_isinstance (pa_cons (pv 1) (pa_cons (pe_bltn (v := .ty "dict") rfl T.z_dict bo_dict rfl) pa_nil)))) pss_never pss_nil)
      (pss_cons (ps_if (PW.pt (pw_or (pt_val (pe_callB (call_isinstS) rfl T.z_isinstance bo_isinstance (pa_cons (pv 1) (pa_cons (pe_bltn (v := .ty "list") rfl T.z_list bo_list rfl) pa_nil)))) (pw_or1 (pt_val (pe_callB (call_isinstS) rfl T.z_isinstance bo_isinstance (pa_cons (pv 1) (pa_cons (pe_bltn (v := .ty "tuple") rfl T.z_tuple bo_tuple rfl) pa_nil))))))) (pss_cons (ps_if (PW.pt (pw_and (pt_val (pe_callB (call_isinstS) rfl T.z_isinstance bo_isinstance (pa_cons (pv 1) (pa_cons (pe_bltn (v := .ty "list") rfl T.z_list bo_list rfl) pa_nil)))) (pw_and1 (pt_not (pt_val (pe_callB (call_isinstS) rfl T.z_isinstance bo_isinstance (pa_cons (pv 0) (pa_cons (pe_bltn (v := .ty "list") rfl T.z_list bo_list rfl) pa_nil)))))))) (pss_one (ps_ret pe_bl)) pss_nil)
      (pss_cons (ps_if (PW.pt (pw_or (PW.pt (pw_and (pt_val (pe_callB (call_isinstS) rfl T.z_isinstance bo_isinstance (pa_cons (pv 1) (pa_cons (pe_bltn (v := .ty "tuple") rfl T.z_tuple bo_tuple rfl) pa_nil)))) (pw_and1 (pt_not (pt_val (pe_callB (call_isinstS) rfl T.z_isinstance bo_isinstance (pa_cons (pv 0) (pa_cons (pe_bltn (v := .ty "tuple") rfl T.z_tuple bo_tuple rfl) pa_nil)))))))) (pw_or1 (pt_cmpR op_ne (pe_callB (call_len) rfl T.z_len bo_len (pa_cons (pv 0) pa_nil)) (pe_callB (call_len) rfl T.z_len bo_len (pa_cons (pv 1) pa_nil)) (nomark _))))) (pss_one (ps_ret pe_bl)) pss_nil)
      (pss_one (ps_ret (pe_callB (call_all_bl rfl) rfl T.z_all bo_all (pa_cons (pe_comp (N := ["_law_one_here", "_law_other"]) rfl (fun _ => ⟨[], CompSc.plain (by decide +kernel) rfl (by decide +kernel) (by decide +kernel)⟩) (pi_zip rfl rfl T.z_zip (pa_cons (pv 0) (pa_cons (pv 1) pa_nil))) (fun _ _ _ _ _ _ _ => (pg_tupK (K' := K) (n := 2) rfl rfl (pgs_cons (pg_name (i := 0) (show (["_law_one_here", "_law_other"] : List Str).Nodup by decide +kernel) rfl (Or.inl rfl)) (pgs_cons (pg_name (i := 1) (show (["_law_one_here", "_law_other"] : List Str).Nodup by decide +kernel) rfl (Or.inl rfl)) pgs_nil)))) (fun _ _ _ _ _ _ _ => (pe_call G_law_same (hr.mono (by decide)) rfl D_law_same.m D_law_same.fn.kp D_law_same.b .nil pass0 (pa_cons (pv 0) (pa_cons (pv 1) pa_nil))))) pa_nil)))))) pss_nil)
      (pss_cons (ps_if (pt_val (pe_callB (call_isinstS) rfl T.z_isinstance bo_isinstance (pa_cons (pv 1) (pa_cons (pe_bltn (v := .ty "str") rfl T.z_str bo_str rfl) pa_nil)))) (pss_one (ps_ret (pe_and (pe_callB (call_isinstS) rfl T.z_isinstance bo_isinstance (pa_cons (pv 0) (pa_cons (pe_bltn (v := .ty "str") rfl T.z_str bo_str rfl) pa_nil))) (pe_one (pe_cmpR op_eq (pv 0) (pv 1) (nomark _)))))) pss_nil)
      (pss_one (ps_ret (pe_and (pe_callB (call_isinstS) rfl T.z_isinstance bo_isinstance (pa_cons (pv 0) (pa_cons (pe_bltn (v := .ty "int") rfl T.z_int bo_int rfl) pa_nil))) (pe_and (pe_not (pe_callB (call_isinstS) rfl T.z_isinstance bo_isinstance (pa_cons (pv 0) (pa_cons (pe_bltn (v := .ty "bool") rfl T.z_bool bo_bool rfl) pa_nil)))) (pe_one (pe_cmpR op_eq (pv 0) (pv 1) (nomark _)))))))))), ?_⟩
    rcases hE with (⟨x, rfl, rfl⟩ | ⟨n, rfl, rfl⟩) | ⟨p, q, xs, ys, rfl, rfl, hp, hq, hlen, hl100, hall⟩
    · refine ⟨_, rfl, _, _, _, _, rfl, .inl (.str x), kit_str_dict, _, rfl, iteF ?_⟩
      refine ⟨_, rfl, _, _, _, _, rfl, .inl (.str x), kit_str_list, _, rfl, iteF ?_⟩
      refine ⟨_, rfl, _, _, _, _, rfl, .inl (.str x), kit_str_tuple, _, rfl, iteF ?_⟩
      refine ⟨_, rfl, _, _, _, _, rfl, .inl (.str x), kit_same, _, rfl, iteT ?_⟩
      refine ⟨_, rfl, _, _, _, _, rfl, .inl (.str x), kit_same, _, rfl, iteT ?_⟩
      refine ⟨_, rfl, _, rfl, rfl, ?_⟩
      rw [decide_eq_true rfl]
      exact k H (Same.refl H)
    · refine ⟨_, rfl, _, _, _, _, rfl, .inl (.int n), kit_int_dict, _, rfl, iteF ?_⟩
      refine ⟨_, rfl, _, _, _, _, rfl, .inl (.int n), kit_int_list, _, rfl, iteF ?_⟩
      refine ⟨_, rfl, _, _, _, _, rfl, .inl (.int n), kit_int_tuple, _, rfl, iteF ?_⟩
      refine ⟨_, rfl, _, _, _, _, rfl, .inl (.int n), kit_int_str, _, rfl, iteF ?_⟩
      refine ⟨_, rfl, _, _, _, _, rfl, .inl (.int n), kit_same, _, rfl, iteT ?_⟩
      refine ⟨_, rfl, _, _, _, _, rfl, .inl (.int n), kit_int_bool, _, rfl, _, rfl, iteT ?_⟩
      refine ⟨_, rfl, _, rfl, rfl, ?_⟩
      rw [decide_eq_true rfl]
      exact k H (Same.refl H)
    · have tp : ∀ {H' : Hp} {a : Addr} {zs : List V}, SqT K H' a zs → (TyOf K H' (.ref a) (.type "tuple") ∨ ∃ b ws, V.ref a = .ref b ∧ SqT K H' b ws ∧ Value.type "tuple" = .type "tuple") := fun {H' a zs} z => .inr ⟨a, zs, rfl, z, rfl⟩
      refine ⟨_, rfl, _, _, _, _, rfl, tp hq, kit_tuple_dict, _, rfl, iteF ?_⟩
      refine ⟨_, rfl, _, _, _, _, rfl, tp hq, kit_tuple_list, _, rfl, iteF ?_⟩
      refine ⟨_, rfl, _, _, _, _, rfl, tp hq, kit_same, _, rfl, iteT ?_⟩
      refine ⟨_, rfl, _, _, _, _, rfl, tp hq, kit_tuple_list, _, rfl, iteF ?_⟩
      refine iteF ?_
      refine ⟨_, rfl, _, _, _, _, rfl, tp hq, kit_same, _, rfl, iteT ?_⟩
      refine ⟨_, rfl, _, _, _, _, rfl, tp hp, kit_same, _, rfl, ?_⟩
      refine iteNT ⟨_, rfl, _, _, rfl, .inr ⟨_, hp, rfl⟩, _, rfl, _, _, rfl, .inr ⟨_, hq, rfl⟩, rfl, _, rfl, ?_⟩
      refine ite_ne (fun z => absurd (congrArg Nat.cast hlen) z) fun _ => ?_
      refine ⟨_, rfl, _, rfl, .tup p, .tup q, _, _, rfl, hp, hq, fun l hl => ?_⟩
      refine cm_map xs.length (fun _ => V.bl true) hl (Nat.lt_of_le_of_lt hl100 (by decide)) (fun i H2 s2 hi => ?_) (fun H2 s2 => ⟨_, _, Same.tup s2 hp, Same.tup s2 hq, .inl (Nat.le_refl _)⟩) (fun i z H2 H3 R s2 hi hy hR => ?_) fun H2 s2 hl2 => ?_
      · exact ⟨_, _, _, _, Same.tup s2 hp, Same.tup s2 hq, List.getElem?_eq_getElem hi, List.getElem?_eq_getElem (by rw [← hlen]; exact hi)⟩
      · obtain ⟨p', x', y', rfl, hp', rfl, hxy⟩ := hy
        obtain ⟨ex, ey⟩ := hxy _ _ (Same.tup s2 hp) (Same.tup s2 hq)
        refine ⟨p', _, rfl, SqT.of upd_same, rfl, _, _, rfl, _, _, rfl, rfl, Kp.rep _ _, ?_⟩
        exact ⟨_, rfl, _, rfl, x', y', rfl, (hall i x' y' ex ey).same (s2.trans (Same.upd hp')), fun H5 s5 => hR H5 ((Same.upd hp').trans s5)⟩
      · refine ⟨l, (List.range xs.length).map fun _ => true, rfl, SqL.of (by rw [hl2, List.map_map]; rfl), ?_⟩
        rw [show ((List.range xs.length).map fun _ => true).all id = true from List.all_eq_true.mpr fun b hb => by
          obtain ⟨_, _, rfl⟩ := List.mem_map.mp hb
          rfl]
        exact k H2 s2
end
section
variable {P : Program} {w : World} {K : PySem.W.Frag} {mg : Str → Option Value} {base : Heap}
theorem ok_law_told {f_law_told f_read_laying f_read_block : Addr} {fd_law_told fd_read_laying fd_read_block : FuncData} {p : Pm} (T : Txt K mg p w) (D_law_told : Dn K mg "_law_told" s_law_told ["_law_text", "_law_laying_here"] f_law_told fd_law_told) (D_read_laying : Dn K mg "read_laying" s_read_laying ["text"] f_read_laying fd_read_laying) (G_read_laying : FnOk P w K mg base (CXs P w) 8 f_read_laying fd_read_laying ["text"] (spReadL K p.C_NoBlock p.C_NoText)) (D_read_block : Dn K mg "read_block" s_read_block ["text"] f_read_block fd_read_block) (G_read_block : FnOk P w K mg base (CXs P w) 7 f_read_block fd_read_block ["text"] (spReadB K p.C_Block p.C_NoBlock p.C_NoText)) : FnOk P w K mg base CX0 10 f_law_told fd_law_told ["_law_text", "_law_laying_here"] (spTold67 K p.C_Block) := by
  refine D_law_told.fn.ok sc_law_told (fun vs H Q E h => ?_) (fun cdv A outer s H vs Q E hr h => ?_)
  · obtain ⟨rs, f, rfl, _⟩ := h
    rfl
  · obtain ⟨rs, f, rfl, L, hk⟩ := h
    refine ⟨_, (pss_mid (ps_try fm_nox (fun _ _ _ LT PO => (pss_one (ps_if (pt_val (pv 1)) (pss_one (ps_set (i := 2) sc_law_told.nd rfl (Or.inl rfl) (pe_tup (pa_cons pe_str (pa_cons (pe_callX G_read_laying (hr.mono (by decide)) rfl D_read_laying.m D_read_laying.fn.kp D_read_laying.b .nil LT (pa_cons (pv 0) pa_nil)) pa_nil))))) (pss_one (ps_set (i := 2) sc_law_told.nd rfl (Or.inl rfl) (pe_tup (pa_cons pe_str (pa_cons (pe_callX G_read_block (hr.mono (by decide)) rfl D_read_block.m D_read_block.fn.kp D_read_block.b .nil LT (pa_cons (pv 0) pa_nil)) pa_nil)))))))) (ph_as (i := 3) sc_law_told.nd rfl rfl rfl T.mg_WeaveError T.xb_WeaveError (fun ea => (pss_one (ps_set (i := 2) sc_law_told.nd rfl (Or.inl rfl) (pe_tup (pa_cons pe_str (pa_cons (pv 3) pa_nil)))))) ph_nil))
      (pss_cons (ps_if (pt_cmpR op_eq (pe_ix ix_tup (pv 2) pe_int (fun _ _ => rfl)) pe_str (nomark _)) (pss_cons (ps_if (PW.pt (pw_or (pt_val (pe_callB (call_isinstXT) rfl T.z_isinstance bo_isinstance (pa_cons (pe_ix ix_tup (pv 2) pe_int (fun _ _ => rfl)) (pa_cons (pe_tup (pa_cons (pe_glob (v := .ref p.C_NoNote) rfl T.mg_NoNote rfl) (pa_cons (pe_glob (v := .ref p.C_NoPrices) rfl T.mg_NoPrices rfl) (pa_cons (pe_glob (v := .ref p.C_NoSign) rfl T.mg_NoSign rfl) pa_nil)))) pa_nil)))) (pw_or1 (pt_not (pt_val (pe_callB (call_isinstXD) rfl T.z_isinstance bo_isinstance (pa_cons (pe_ix ix_tup (pv 2) pe_int (fun _ _ => rfl)) (pa_cons (pe_bltn (v := .ty "ValueError") rfl T.z_ValueError bo_ValueError rfl) pa_nil)))))))) (pss_one (ps_ret (pe_tup (pa_cons pe_str (pa_cons pe_int pa_nil))))) pss_nil)
      (pss_cons (ps_if (PW.pt (pw_and (pt_val (pe_callB (call_isinstXD) rfl T.z_isinstance bo_isinstance (pa_cons (pe_ix ix_tup (pv 2) pe_int (fun _ _ => rfl)) (pa_cons (pe_glob (v := .ref p.C_NoText) rfl T.mg_NoText rfl) pa_nil)))) (pw_and1 (pt_not (pt_val (pe_callB (call_isinstXD) rfl T.z_isinstance bo_isinstance (pa_cons (pe_ix ix_tup (pv 2) pe_int (fun _ _ => rfl)) (pa_cons (pe_glob (v := .ref p.C_NoBlock) rfl T.mg_NoBlock rfl) pa_nil)))))))) (pss_one (ps_ret (pe_tup (pa_cons pe_str (pa_cons (pe_fldE (pe_ix ix_tup (pv 2) pe_int (fun _ _ => rfl)) rfl) pa_nil))))) pss_nil)
      (pss_one (ps_if (PW.pt (pw_and (pt_val (pe_callB (call_isinstXD) rfl T.z_isinstance bo_isinstance (pa_cons (pe_ix ix_tup (pv 2) pe_int (fun _ _ => rfl)) (pa_cons (pe_glob (v := .ref p.C_NoBlock) rfl T.mg_NoBlock rfl) pa_nil)))) (pw_and1 (pt_not (pt_val (pe_callB (call_isinstXD) rfl T.z_isinstance bo_isinstance (pa_cons (pe_ix ix_tup (pv 2) pe_int (fun _ _ => rfl)) (pa_cons (pe_glob (v := .ref p.C_NoText) rfl T.mg_NoText rfl) pa_nil)))))))) (pss_one (ps_ret (pe_tup (pa_cons pe_str (pa_cons pe_int pa_nil))))) pss_nil)))) pss_nil)
      (pss_one (ps_ret (pv 2))))), ?_⟩
    refine ⟨fun σ' H' => Same H H' ∧ ∃ q, σ' = [some (.str (jn rs)), some (.bl f), some (.ref q), none] ∧ Wt K p.C_Block p.C_NoBlock p.C_NoText f rs H' q, ?_, ?_⟩
    · refine ⟨_, rfl, _, rfl, ?_⟩
      cases f with
      | true =>
        refine iteT ⟨_, rfl, rs, rfl, L, fun g h e hg hc q2 H1 s1 hq2 => ?_, fun h2 dx H1 s1 hd => ?_, fun h2 i hB dx H1 s1 hd => ?_, fun h2 hg hc H1 s1 => ?_⟩
        · refine ⟨by show 2 ≤ sizeLine; decide, fun q hq => ⟨s1.trans (Same.upd hq), q, rfl, .inl ⟨rfl, g, h, q2, e, hg, hc, SqT.of upd_same, SqT.of (Same.upd hq _ _ hq2)⟩⟩⟩
        · exact ⟨_, _, rfl, T.ks_NoText_WeaveError, iteT fun ea hea => ⟨_, rfl, by show 2 ≤ sizeLine; decide, fun q hq => ⟨(s1.trans (Same.upd hea)).trans (Same.upd hq), q, rfl, .inr (.inr (.inl ⟨ea, dx, 2, SqT.of upd_same, Same.upd hq _ _ upd_same, Same.upd hq _ _ (Same.upd hea _ _ hd), .two h2⟩))⟩⟩⟩
        · exact ⟨_, _, rfl, T.ks_NoText_WeaveError, iteT fun ea hea => ⟨_, rfl, by show 2 ≤ sizeLine; decide, fun q hq => ⟨(s1.trans (Same.upd hea)).trans (Same.upd hq), q, rfl, .inr (.inr (.inl ⟨ea, dx, i, SqT.of upd_same, Same.upd hq _ _ upd_same, Same.upd hq _ _ (Same.upd hea _ _ hd), .text (fun _ => h2) hB⟩))⟩⟩⟩
        · exact ⟨_, _, rfl, T.ks_NoBlock_WeaveError, iteT fun ea hea => ⟨_, rfl, by show 2 ≤ sizeLine; decide, fun q hq => ⟨(s1.trans (Same.upd hea)).trans (Same.upd hq), q, rfl, .inr (.inr (.inr ⟨ea, SqT.of upd_same, Same.upd hq _ _ upd_same, .block (fun _ => h2) hg hc⟩))⟩⟩⟩
      | false =>
        refine iteF ⟨_, rfl, rs, rfl, L, fun hg hc b H1 s1 hbn hB => ?_, fun i hB dx H1 s1 hd => ?_, fun hg hc H1 s1 => ?_⟩
        · refine ⟨by show 2 ≤ sizeLine; decide, fun q hq => ⟨s1.trans (Same.upd hq), q, rfl, .inr (.inl ⟨rfl, hg, hc, b, SqT.of upd_same, hB.same (Same.upd hq)⟩)⟩⟩
        · exact ⟨_, _, rfl, T.ks_NoText_WeaveError, iteT fun ea hea => ⟨_, rfl, by show 2 ≤ sizeLine; decide, fun q hq => ⟨(s1.trans (Same.upd hea)).trans (Same.upd hq), q, rfl, .inr (.inr (.inl ⟨ea, dx, i, SqT.of upd_same, Same.upd hq _ _ upd_same, Same.upd hq _ _ (Same.upd hea _ _ hd), .text (fun z => nomatch z) hB⟩))⟩⟩⟩
        · exact ⟨_, _, rfl, T.ks_NoBlock_WeaveError, iteT fun ea hea => ⟨_, rfl, by show 2 ≤ sizeLine; decide, fun q hq => ⟨(s1.trans (Same.upd hea)).trans (Same.upd hq), q, rfl, .inr (.inr (.inr ⟨ea, SqT.of upd_same, Same.upd hq _ _ upd_same, .block (fun z => nomatch z) hg hc⟩))⟩⟩⟩
    rintro σ' H1 ⟨s1, q, rfl, hW⟩
    have nrd : ¬ V.str (Str.ofString "read") = V.str (Str.ofString "no") := by decide +kernel
    rcases hW with ⟨rfl, g, h, q2, e, hg, hc, hq, hq2⟩ | ⟨rfl, hg, hc, b, hq, hB⟩ | ⟨ea, dx, i, hq, he, hd, hT⟩ | ⟨ea, hq, he, hT⟩
    · refine ⟨_, rfl, q, _, _, _, rfl, rfl, hq, rfl, rfl, _, rfl, ?_⟩
      rw [decide_eq_false nrd]
      refine iteF ⟨_, rfl, ?_⟩
      rcases hk with ⟨ys, hT, _⟩ | ⟨_, g', h', e', _, _, kk⟩ | ⟨z, _⟩
      · exact (hT.not (fun _ => by rw [e]; rfl) hg hc).elim
      · rw [e] at e'
        cases e'
        exact kk q q2 H1 s1 hq hq2
      · cases z
    · refine ⟨_, rfl, q, _, _, _, rfl, rfl, hq, rfl, rfl, _, rfl, ?_⟩
      rw [decide_eq_false nrd]
      refine iteF ⟨_, rfl, ?_⟩
      rcases hk with ⟨ys, hT, _⟩ | ⟨z, _⟩ | ⟨_, _, _, kk⟩
      · exact (hT.not (fun z => nomatch z) hg hc).elim
      · cases z
      · exact kk q b H1 s1 hq hB
    · have xt := T.xt_NoText
      have k5 : PySem.W.kitAny K (.ref p.C_NoText) ([p.C_NoNote, p.C_NoPrices, p.C_NoSign].map Value.ref) = some false := kit_cons T.ki_NoText_NoNote (kit_cons T.ki_NoText_NoPrices (kit_cons T.ki_NoText_NoSign kit_nil))
      refine ⟨_, rfl, q, _, _, _, rfl, rfl, hq, rfl, rfl, _, rfl, ?_⟩
      rw [decide_eq_true rfl]
      refine iteT ⟨_, rfl, q, _, _, _, rfl, rfl, hq, rfl, by show 3 ≤ sizeLine; decide, fun t1 ht1 => ?_⟩
      have s2 : Same H1 (upd H1 t1 (.tup [.ref p.C_NoNote, .ref p.C_NoPrices, .ref p.C_NoSign])) := Same.upd ht1
      refine ⟨ea, p.C_NoText, some dx, t1, [p.C_NoNote, p.C_NoPrices, p.C_NoSign], _, rfl, upd_same, s2 _ _ he, .inr ⟨dx, _, rfl, s2 _ _ hd⟩, xt, k5, _, rfl, iteF ?_⟩
      generalize upd H1 t1 (.tup [.ref p.C_NoNote, .ref p.C_NoPrices, .ref p.C_NoSign]) = H2 at s2 ⊢
      have hq2 := Same.tup s2 hq
      have he2 := s2 _ _ he
      have hd2 := s2 _ _ hd
      refine ⟨_, rfl, q, _, _, _, rfl, rfl, hq2, rfl, ea, p.C_NoText, some dx, _, _, _, rfl, .inr ⟨_, rfl, rfl⟩, he2, .inr ⟨dx, _, rfl, hd2⟩, xt, T.ki_NoText_ValueError, _, rfl, iteNT ?_⟩
      refine ⟨_, rfl, q, _, _, _, rfl, rfl, hq2, rfl, ea, p.C_NoText, some dx, _, _, _, rfl, .inl ⟨_, rfl, rfl⟩, he2, .inr ⟨dx, _, rfl, hd2⟩, xt, T.ki_NoText_NoText, _, rfl, iteT ?_⟩
      refine ⟨_, rfl, q, _, _, _, rfl, rfl, hq2, rfl, ea, p.C_NoText, some dx, _, _, _, rfl, .inl ⟨_, rfl, rfl⟩, he2, .inr ⟨dx, _, rfl, hd2⟩, xt, T.ki_NoText_NoBlock, _, rfl, iteNF ?_⟩
      refine ⟨_, rfl, q, _, _, _, rfl, rfl, hq2, rfl, ea, _, dx, _, _, rfl, he2, hd2, xt, T.n_NoText_line, fldT_line, by show 2 ≤ sizeLine; decide, fun t ht => ?_⟩
      rcases hk with ⟨ys, hT', kk⟩ | ⟨rfl, g, h, e, hg, hc, _⟩ | ⟨rfl, hg, hc, _⟩
      · rw [hT'.uniq hT] at kk
        exact kk t _ ((s1.trans s2).trans (Same.upd ht)) (SqT.of upd_same)
      · exact (hT.not (fun _ => by rw [e]; rfl) hg hc).elim
      · exact (hT.not (fun z => nomatch z) hg hc).elim
    · have xt := T.xt_NoBlock
      have k5 : PySem.W.kitAny K (.ref p.C_NoBlock) ([p.C_NoNote, p.C_NoPrices, p.C_NoSign].map Value.ref) = some false := kit_cons T.ki_NoBlock_NoNote (kit_cons T.ki_NoBlock_NoPrices (kit_cons T.ki_NoBlock_NoSign kit_nil))
      refine ⟨_, rfl, q, _, _, _, rfl, rfl, hq, rfl, rfl, _, rfl, ?_⟩
      rw [decide_eq_true rfl]
      refine iteT ⟨_, rfl, q, _, _, _, rfl, rfl, hq, rfl, by show 3 ≤ sizeLine; decide, fun t1 ht1 => ?_⟩
      have s2 : Same H1 (upd H1 t1 (.tup [.ref p.C_NoNote, .ref p.C_NoPrices, .ref p.C_NoSign])) := Same.upd ht1
      refine ⟨ea, p.C_NoBlock, none, t1, [p.C_NoNote, p.C_NoPrices, p.C_NoSign], _, rfl, upd_same, s2 _ _ he, .inl rfl, xt, k5, _, rfl, iteF ?_⟩
      generalize upd H1 t1 (.tup [.ref p.C_NoNote, .ref p.C_NoPrices, .ref p.C_NoSign]) = H2 at s2 ⊢
      have hq2 := Same.tup s2 hq
      have he2 := s2 _ _ he
      refine ⟨_, rfl, q, _, _, _, rfl, rfl, hq2, rfl, ea, p.C_NoBlock, none, _, _, _, rfl, .inr ⟨_, rfl, rfl⟩, he2, .inl rfl, xt, T.ki_NoBlock_ValueError, _, rfl, iteNT ?_⟩
      refine ⟨_, rfl, q, _, _, _, rfl, rfl, hq2, rfl, ea, p.C_NoBlock, none, _, _, _, rfl, .inl ⟨_, rfl, rfl⟩, he2, .inl rfl, xt, T.ki_NoBlock_NoText, _, rfl, iteF (iteF ?_)⟩
      refine ⟨_, rfl, q, _, _, _, rfl, rfl, hq2, rfl, ea, p.C_NoBlock, none, _, _, _, rfl, .inl ⟨_, rfl, rfl⟩, he2, .inl rfl, xt, T.ki_NoBlock_NoBlock, _, rfl, iteT ?_⟩
      refine ⟨_, rfl, q, _, _, _, rfl, rfl, hq2, rfl, ea, p.C_NoBlock, none, _, _, _, rfl, .inl ⟨_, rfl, rfl⟩, he2, .inl rfl, xt, T.ki_NoBlock_NoText, _, rfl, iteNF ?_⟩
      refine ⟨by show 2 ≤ sizeLine; decide, fun t ht => ?_⟩
      rcases hk with ⟨ys, hT', kk⟩ | ⟨rfl, g, h, e, hg, hc, _⟩ | ⟨rfl, hg, hc, _⟩
      · rw [hT'.uniq hT] at kk
        exact kk t _ ((s1.trans s2).trans (Same.upd ht)) (SqT.of upd_same)
      · exact (hT.not (fun _ => by rw [e]; rfl) hg hc).elim
      · exact (hT.not (fun z => nomatch z) hg hc).elim
end
section
variable {P : Program} {w : World} {K : PySem.W.Frag} {mg : Str → Option Value} {base : Heap}
theorem ok_law_columns {f_law_columns f_law_next : Addr} {fd_law_columns fd_law_next : FuncData} {p : Pm} (T : Txt K mg p w) (D_law_columns : Dn K mg "_law_columns" s_law_columns ["_law_script", "_law_at", "_law_signs_here", "_law_high", "_law_wide"] f_law_columns fd_law_columns) (D_law_next : Dn K mg "_law_next" s_law_next ["_law_script", "_law_at"] f_law_next fd_law_next) (G_law_next : FnOk P w K mg base CX0 1 f_law_next fd_law_next ["_law_script", "_law_at"] (spNext K)) : FnOk P w K mg base CX0 2 f_law_columns fd_law_columns ["_law_script", "_law_at", "_law_signs_here", "_law_high", "_law_wide"] (spColsW K) := by
  refine D_law_columns.fn.ok sc_law_columns (fun vs H Q E h => ?_) (fun cdv A outer s H vs Q E hr h => ?_)
  · obtain ⟨s, t, ns, k, sg, n, wd, rfl, _⟩ := h
    rfl
  · obtain ⟨s, t, ns, k, sg, n, wd, rfl, hC, hk, hn0, hn, hw, hg0, hg, hgs, kk⟩ := h
    have k0 := hC.k0
    have hz : sg.length ≤ sizeLine := Nat.le_trans hg (by decide)
    have pick : ∀ i : Int, 0 ≤ i → ∃ c, atI sg.cps.toList (i % ((sg.cps.size : Nat) : Int)) = some c ∧ isSignN c = true := fun i hi => by
      have i1 := Int.emod_nonneg i (show ((sg.cps.size : Nat) : Int) ≠ 0 by omega)
      have i2 := Int.emod_lt_of_pos i (show (0 : Int) < ((sg.cps.size : Nat) : Int) by omega)
      obtain ⟨j, hj⟩ : ∃ j : Nat, i % ((sg.cps.size : Nat) : Int) = (j : Int) := ⟨_, (Int.toNat_of_nonneg i1).symm⟩
      have hjl : j < sg.cps.toList.length := by rw [Array.length_toList]; omega
      exact ⟨sg.cps.toList[j], by rw [hj]; exact atI_nat (List.getElem?_eq_getElem hjl), hgs _ (List.getElem_mem hjl)⟩
    refine ⟨_, (pss_cons (ps_setComp (i := 5) (N := ["_law_k"]) sc_law_columns.nd rfl (Or.inl rfl) rfl (fun _ => ⟨[], CompSc.plain (by decide +kernel) rfl (by decide +kernel) (by decide +kernel)⟩) (pi_range1 rfl T.z_range (pa_cons (pv 3) pa_nil)) (fun _ _ _ _ _ _ _ => (pg_name (i := 0) (show (["_law_k"] : List Str).Nodup by decide +kernel) rfl (Or.inl rfl))) (fun _ _ _ _ _ _ _ => pe_str))
      (pss_cons (ps_for PassesOwn.never rfl (pi_range1 rfl T.z_range (pa_cons (pv 4) pa_nil)) (pg_name (i := 7) sc_law_columns.nd rfl (Or.inl rfl)) (pss_cons (ps_set (i := 8) sc_law_columns.nd rfl (Or.inl rfl) (pe_op op_mod (pe_call G_law_next (hr.mono (by decide)) rfl D_law_next.m D_law_next.fn.kp D_law_next.b .nil pass0 (pa_cons (pv 0) (pa_cons (pv 1) pa_nil))) (pv 3)))
      (pss_one (ps_for PassesOwn.never rfl (pi_range1 rfl T.z_range (pa_cons (pv 3) pa_nil)) (pg_name (i := 6) sc_law_columns.nd rfl (Or.inl rfl)) (pss_cons (ps_set (i := 9) sc_law_columns.nd rfl (Or.inl rfl) (pe_call G_law_next (hr.mono (by decide)) rfl D_law_next.m D_law_next.fn.kp D_law_next.b .nil pass0 (pa_cons (pv 0) (pa_cons (pv 1) pa_nil))))
      (pss_one (ps_if (PW.pt (pw_or (pt_cmpR op_eq (pv 6) (pv 8) (nomark _)) (pw_or1 (pt_cmpR op_lt (pe_op op_mod (pv 9) pe_int) pe_int (nomark _))))) (pss_one (ps_asg (pe_op op_add_str (pe_ix ix_list (pv 5) (pv 6) (fun _ _ => rfl)) (pe_ix ix_str (pv 2) (pe_op op_mod (pe_op op_fdiv (pv 9) pe_int) (pe_callB (call_len) rfl T.z_len bo_len (pa_cons (pv 2) pa_nil))) (fun _ _ => rfl))) (pg_sub (pv 5) (pv 6) set_list))) (pss_one (ps_asg (pe_op op_add_str (pe_ix ix_list (pv 5) (pv 6) (fun _ _ => rfl)) pe_str) (pg_sub (pv 5) (pv 6) set_list))))))))))
      (pss_one (ps_ret (pv 5))))), ?_⟩
    refine ⟨_, rfl, n, rfl, by omega, by omega, fun l hl => ?_⟩
    have nlt : l ≠ t := fun z => by rw [z, hC.at_] at hl; cases hl
    refine cm_map n (fun _ => V.str ⟨#[]⟩) hl (Nat.lt_of_le_of_lt hn (by decide)) (fun i H2 s2 hi => ?_) (fun H2 s2 => ?_) (fun i x H2 H3 R s2 hi hy hR => ?_) fun H2 s2 hl2 => ?_
    · show i < ((n : Nat) : Int).toNat
      omega
    · show ((n : Nat) : Int).toNat ≤ n
      omega
    · obtain ⟨rfl, rfl⟩ := hy
      exact ⟨Kp.rep _ _, hR _ (Same.refl _)⟩
    have hl2' : H2 l = some (.lst ((List.replicate n (⟨#[]⟩ : Str)).map V.str)) := by
      rw [hl2]
      refine congrArg (fun z => some (HO.lst z)) ?_
      refine List.ext_getElem (by simp) fun i h1 h2 => ?_
      simp
    have r0 : RsOk (List.replicate n (⟨#[]⟩ : Str)) n 0 := ⟨List.length_replicate, fun r hr => (by rw [List.eq_of_mem_replicate hr]; rfl), fun r hr c hc => (by rw [List.eq_of_mem_replicate hr] at hc; cases hc), fun j hj => (by omega)⟩
    refine ⟨_, rfl, wd, rfl, by omega, by omega, ?_⟩
    rw [show ((wd : Nat) : Int).toNat = wd by omega]
    refine for_range (lo := 0) (n := wd) (fun j σ H3 => ∃ (rs : List Str) (k' : Int) (v6 v7 v8 v9 : Option V), σ = [some (.ref s), some (.ref t), some (.str sg), some (.int n), some (.int wd), some (.ref l), v6, v7, v8, v9] ∧ RsOk rs n j ∧ H3 l = some (.lst (rs.map V.str)) ∧ Same (Wo t H) (Wo t H3) ∧ H3 t = some (.lst [.int k']) ∧ k ≤ k' ∧ k' ≤ k + 11 * (j : Int)) ⟨_, k, _, _, _, _, rfl, r0, hl2', Wo.same s2, s2 _ _ hC.at_, by omega, by omega⟩ ?_ ?_
    · rintro j σ H3 hj ⟨rs, k', v6, v7, v8, v9, rfl, hR, hl3, w3, ht3, b1, b2⟩
      have C3 : Ctr K H3 s t ns k' := hC.off w3 ht3 (by omega)
      have hlen := hR.len
      refine ⟨_, rfl, _, rfl, s, t, ns, k', rfl, C3, by omega, fun m hm hm2 => ?_⟩
      have hl4 : upd H3 t (.lst [.int (k' + 1)]) l = some (.lst (rs.map V.str)) := by rw [upd_ne nlt]; exact hl3
      have w4 : Same (Wo t H) (Wo t (upd H3 t (.lst [.int (k' + 1)]))) := by rw [Wo.set]; exact w3
      have ht4 : upd H3 t (.lst [.int (k' + 1)]) t = some (.lst [.int (k' + 1)]) := upd_same
      generalize upd H3 t (.lst [.int (k' + 1)]) = H4 at hl4 w4 ht4 ⊢
      have f1 := Int.emod_nonneg m (show (n : Int) ≠ 0 by omega)
      have f2 := Int.emod_lt_of_pos m (show (0 : Int) < (n : Int) by omega)
      obtain ⟨fu, hfu⟩ : ∃ fu : Nat, m % (n : Int) = (fu : Int) := ⟨_, (Int.toNat_of_nonneg f1).symm⟩
      refine ⟨_, rfl, _, _, rfl, rfl, (by show (0 : Int) < (n : Int); omega), ?_⟩
      refine ⟨_, rfl, n, rfl, by omega, by omega, ?_⟩
      rw [show ((n : Nat) : Int).toNat = n by omega]
      refine for_range (lo := 0) (n := n) (fun i σ H5 => ∃ (cs : List Nat) (v6 v9 : Option V), σ = [some (.ref s), some (.ref t), some (.str sg), some (.int n), some (.int wd), some (.ref l), v6, some (.int (0 + (j : Int))), some (.int (fu : Int)), v9] ∧ cs.length = i ∧ (∀ c ∈ cs, okT c) ∧ (fu < i → ∃ c ∈ cs, c ≠ 45) ∧ H5 l = some (.lst ((grP rs cs n).map V.str)) ∧ Same (Wo t H) (Wo t H5) ∧ H5 t = some (.lst [.int (k' + 1 + (i : Int))])) ⟨[], v6, v9, by rw [← hfu]; rfl, rfl, fun c hc => (by cases hc), fun z => absurd z (Nat.not_lt_zero _), by rw [grP_nil hlen]; exact hl4, w4, by rw [ht4]; simp⟩ ?_ ?_
      · rintro i σ H5 hi ⟨cs, v6, v9, rfl, hcl, hok, hfull, hl5, w5, ht5⟩
        have C5 : Ctr K H5 s t ns (k' + 1 + (i : Int)) := hC.off w5 ht5 (by omega)
        refine ⟨_, rfl, _, rfl, s, t, ns, _, rfl, C5, by omega, fun m2 hm3 hm4 => ?_⟩
        have hl6 : upd H5 t (.lst [.int (k' + 1 + (i : Int) + 1)]) l = some (.lst ((grP rs cs n).map V.str)) := by rw [upd_ne nlt]; exact hl5
        have w6 : Same (Wo t H) (Wo t (upd H5 t (.lst [.int (k' + 1 + (i : Int) + 1)]))) := by rw [Wo.set]; exact w5
        have ht6 : upd H5 t (.lst [.int (k' + 1 + (i : Int) + 1)]) t = some (.lst [.int (k' + 1 + (i : Int) + 1)]) := upd_same
        generalize upd H5 t (.lst [.int (k' + 1 + (i : Int) + 1)]) = H6 at hl6 w6 ht6 ⊢
        have hir : i < rs.length := by omega
        have hrr := List.getElem?_eq_getElem hir
        have hrw := hR.wid _ (List.getElem_mem hir)
        generalize rs[i] = row at hrr hrw
        have hat : (grP rs cs n)[i]? = some row := by rw [← hcl, grP_at hlen (by omega), hcl]; exact hrr
        have hati : atI ((grP rs cs n).map V.str) (0 + (i : Int)) = some (.str row) := by rw [Int.zero_add]; exact atI_nat (by rw [List.getElem?_map, hat]; rfl)
        have hix : ixN ((grP rs cs n).map V.str).length (0 + (i : Int)) = some i := by
          rw [Int.zero_add]
          unfold ixN
          rw [if_pos (by omega), if_pos (by rw [List.length_map, grP_len]; omega)]
          simp
        have fin : ∀ c : Nat, okT c → (i = fu → c ≠ 45) → ∃ (cs' : List Nat) (v6 v9 : Option V), [some (V.ref s), some (.ref t), some (.str sg), some (.int n), some (.int wd), some (.ref l), some (.int (0 + (i : Int))), some (.int (0 + (j : Int))), some (.int (fu : Int)), some (.int m2)] = [some (.ref s), some (.ref t), some (.str sg), some (.int n), some (.int wd), some (.ref l), v6, some (.int (0 + (j : Int))), some (.int (fu : Int)), v9] ∧ cs'.length = i + 1 ∧ (∀ c ∈ cs', okT c) ∧ (fu < i + 1 → ∃ c ∈ cs', c ≠ 45) ∧ upd H6 l (.lst (((grP rs cs n).map V.str).set i (.str (row ++ ⟨#[c]⟩)))) l = some (.lst ((grP rs cs' n).map V.str)) ∧ Same (Wo t H) (Wo t (upd H6 l (.lst (((grP rs cs n).map V.str).set i (.str (row ++ ⟨#[c]⟩)))))) ∧ upd H6 l (.lst (((grP rs cs n).map V.str).set i (.str (row ++ ⟨#[c]⟩)))) t = some (.lst [.int (k' + 1 + ((i + 1 : Nat) : Int))]) := fun c hc hne => by
          refine ⟨cs ++ [c], _, _, rfl, by rw [List.length_append, hcl]; rfl, fun d hd => ?_, fun hf => ?_, ?_, ?_, ?_⟩
          · rcases List.mem_append.mp hd with hd | hd
            · exact hok d hd
            · rw [List.mem_singleton.mp hd]; exact hc
          · by_cases e : fu = i
            · exact ⟨c, List.mem_append_right _ (List.mem_singleton.mpr rfl), hne e.symm⟩
            · obtain ⟨d, hd, hd2⟩ := hfull (by omega)
              exact ⟨d, List.mem_append_left _ hd, hd2⟩
          · rw [upd_same, ← grP_snoc (by rw [hcl]; exact hrr), hcl, List.map_set]
          · rw [Wo.upd_ne nlt]
            exact Same.at w6 (Wo.free hl)
          · rw [upd_ne nlt.symm, ht6]
            simp only [Int.natCast_add, Int.natCast_one, Int.add_assoc]
        have sl6 := SqL.of (K := K) hl6
        obtain ⟨c, hc, hs⟩ := pick (m2 / 5) (Int.ediv_nonneg hm3 (by decide))
        have hfit : row.cps.size + 1 ≤ sizeLine := by rw [hrw]; exact Nat.le_trans (show j + 1 ≤ 100 by omega) (by decide)
        refine ⟨_, rfl, _, rfl, rfl, _, rfl, ?_⟩
        by_cases e : i = fu
        · rw [decide_eq_true (show V.int (0 + (i : Int)) = V.int (fu : Int) by rw [e, Int.zero_add])]
          exact iteT ⟨_, rfl, _, rfl, l, _, _, .str row, rfl, rfl, sl6, hati, _, rfl, _, rfl, _, _, rfl, rfl, ⟨by decide, by decide⟩, _, rfl, _, _, rfl, ⟨hz, rfl⟩, _, _, rfl, rfl, (by show (0 : Int) < ((sg.cps.size : Nat) : Int); omega), sg, _, c, rfl, rfl, hz, hc, _, _, rfl, rfl, hfit, _, rfl, _, rfl, l, _, _, i, rfl, rfl, hl6, hix, fin c (.inr hs) fun _ => sign_ne hs⟩
        · rw [decide_eq_false (fun z => e (by injection z with z; omega))]
          refine iteF ⟨_, rfl, _, _, rfl, rfl, (by show (0 : Int) < 5; decide), _, _, rfl, rfl, _, rfl, ?_⟩
          refine ite_dec (fun _ => ?_) fun _ => ?_
          · exact ⟨_, rfl, _, rfl, l, _, _, .str row, rfl, rfl, sl6, hati, _, rfl, _, rfl, _, _, rfl, rfl, ⟨by decide, by decide⟩, _, rfl, _, _, rfl, ⟨hz, rfl⟩, _, _, rfl, rfl, (by show (0 : Int) < ((sg.cps.size : Nat) : Int); omega), sg, _, c, rfl, rfl, hz, hc, _, _, rfl, rfl, hfit, _, rfl, _, rfl, l, _, _, i, rfl, rfl, hl6, hix, fin c (.inr hs) fun _ => sign_ne hs⟩
          · exact ⟨_, rfl, _, rfl, l, _, _, .str row, rfl, rfl, sl6, hati, _, _, rfl, rfl, hfit, _, rfl, _, rfl, l, _, _, i, rfl, rfl, hl6, hix, fin 45 (.inl rfl) fun z => absurd z e⟩
      · rintro σ H5 ⟨cs, v6, v9, rfl, hcl, hok, hfull, hl5, w5, ht5⟩
        rw [grP_full hcl] at hl5
        exact ⟨_, _, _, _, _, _, rfl, hR.next hcl hok (hfull (by omega)), hl5, w5, ht5, by omega, by omega⟩
    · rintro σ H3 ⟨rs, k', v6, v7, v8, v9, rfl, hR, hl3, w3, ht3, b1, b2⟩
      exact ⟨_, rfl, kk l rs k' H3 hR hl3 hl w3 ht3 b1 (by omega)⟩
end
section
variable {P : Program} {w : World} {K : PySem.W.Frag} {mg : Str → Option Value} {base : Heap}
theorem ok_law_spoilt {f_law_spoilt f_law_next : Addr} {fd_law_spoilt fd_law_next : FuncData} {p : Pm} (T : Txt K mg p w) (D_law_spoilt : Dn K mg "_law_spoilt" s_law_spoilt ["_law_script", "_law_at", "_law_rows"] f_law_spoilt fd_law_spoilt) (D_law_next : Dn K mg "_law_next" s_law_next ["_law_script", "_law_at"] f_law_next fd_law_next) (G_law_next : FnOk P w K mg base CX0 1 f_law_next fd_law_next ["_law_script", "_law_at"] (spNext K)) : FnOk P w K mg base CX0 2 f_law_spoilt fd_law_spoilt ["_law_script", "_law_at", "_law_rows"] (spSpoilt67 K) := by
  refine D_law_spoilt.fn.ok sc_law_spoilt (fun vs H Q E h => ?_) (fun cdv A outer s H vs Q E hr h => ?_)
  · obtain ⟨s, t, a, ns, k, rs, n, wd, rfl, _⟩ := h
    rfl
  · obtain ⟨s, t, a, ns, k, rs, n, wd, rfl, hC, hk, ha, nat_, hR, hn0, hn, hwd, kk⟩ := h
    have k0 := hC.k0
    have hlen := hR.len
    have hr0 : 0 < rs.length := by omega
    have hr00 := List.getElem?_eq_getElem hr0
    have hw0 := (hR.row hr00).1
    generalize rs[0] = r0 at hr00 hw0
    refine ⟨_, (pss_cons (ps_set (i := 3) sc_law_spoilt.nd rfl (Or.inl rfl) (pe_call G_law_next (hr.mono (by decide)) rfl D_law_next.m D_law_next.fn.kp D_law_next.b .nil pass0 (pa_cons (pv 0) (pa_cons (pv 1) pa_nil))))
      (pss_mid (ps_set (i := 4) sc_law_spoilt.nd rfl (Or.inl rfl) (pe_op op_mod (pe_op op_fdiv (pv 3) pe_int) (pe_callB (call_len) rfl T.z_len bo_len (pa_cons (pv 2) pa_nil))))
      (pss_cons (ps_set (i := 5) sc_law_spoilt.nd rfl (Or.inl rfl) (pe_callTy (call_list_of) rfl T.z_list bo_list (pa_cons (pv 2) pa_nil)))
      (pss_mid (ps_if (PW.pt (pw_and (pt_cmpR op_lt (pe_op op_mod (pv 3) pe_int) pe_int (nomark _)) (pw_and1 (pt_cmpR op_gt (pe_callB (call_len) rfl T.z_len bo_len (pa_cons (pe_ix ix_list (pv 2) pe_int (fun _ _ => rfl)) pa_nil)) pe_int (nomark _))))) (pss_mid (ps_set (i := 6) sc_law_spoilt.nd rfl (Or.inr rfl) (pe_op op_mod (pe_op op_fdiv (pv 3) pe_int) (pe_callB (call_len) rfl T.z_len bo_len (pa_cons (pe_ix ix_list (pv 2) pe_int (fun _ _ => rfl)) pa_nil))))
      (pss_mid (ps_asg (pe_op op_add_str (pe_op op_add_str (pe_slice sl_str (pe_ix ix_list (pv 2) (pv 4) (fun _ _ => rfl)) po_none (po_some (pv 6))) pe_str) (pe_slice sl_str (pe_ix ix_list (pv 2) (pv 4) (fun _ _ => rfl)) (po_some (pe_op op_add (pv 6) pe_int)) po_none)) (pg_sub (pv 5) (pv 4) set_list))
      (pss_cons (ps_set (i := 7) sc_law_spoilt.nd rfl (Or.inl rfl) (pv 4))
      (pss_mid (ps_set (i := 8) sc_law_spoilt.nd rfl (Or.inl rfl) (pe_op op_mod (pe_op op_fdiv (pv 3) pe_int) (pe_callB (call_len) rfl T.z_len bo_len (pa_cons (pv 2) pa_nil))))
      (pss_mid (ps_if (PW.pt (pw_and (pt_cmpR op_eq (pe_op op_mod (pv 3) pe_int) pe_int (nomark _)) (pw_and1 (pt_cmpR op_gt (pe_callB (call_len) rfl T.z_len bo_len (pa_cons (pv 2) pa_nil)) pe_int (nomark _))))) (pss_cons (ps_asg (pe_op op_add_str (pe_ix ix_list (pv 5) (pv 8) (fun _ _ => rfl)) pe_str) (pg_sub (pv 5) (pv 8) set_list))
      (pss_one (ps_set (i := 7) sc_law_spoilt.nd rfl (Or.inl rfl) (pe_callB (call_min2 rfl) rfl T.z_min bo_min (pa_cons (pv 4) (pa_cons (pe_callB (call_max2 rfl) rfl T.z_max bo_max (pa_cons (pv 8) (pa_cons pe_int pa_nil))) pa_nil)))))) pss_nil)
      (pss_mid (ps_if (pt_cmpR op_eq (pe_op op_mod (pv 3) pe_int) pe_int (nomark _)) (pss_one (ps_setComp (i := 5) (N := ["_law_row_here"]) sc_law_spoilt.nd rfl (Or.inl rfl) rfl (fun _ => ⟨[], CompSc.plain (by decide +kernel) rfl (by decide +kernel) (by decide +kernel)⟩) (pi_list (pv 5)) (fun _ _ _ _ _ _ _ => (pg_name (i := 0) (show (["_law_row_here"] : List Str).Nodup by decide +kernel) rfl (Or.inl rfl))) (fun _ _ _ _ _ _ _ => (pe_op op_add_str (pv 0) pe_str)))) pss_nil)
      (pss_one (ps_ret (pe_tup (pa_cons (pv 5) (pa_cons (pe_tup (pa_cons pe_str (pa_cons (pv 7) pa_nil))) pa_nil))))))))))) pss_nil)
      (pss_mid (ps_if (PW.pt (pw_and (pt_cmpR op_eq (pe_op op_mod (pv 3) pe_int) pe_int (nomark _)) (pw_and1 (pt_cmpR op_gt (pe_callB (call_len) rfl T.z_len bo_len (pa_cons (pv 2) pa_nil)) pe_int (nomark _))))) (pss_cons (ps_asg (pe_op op_add_str (pe_ix ix_list (pv 2) (pv 4) (fun _ _ => rfl)) (pe_ix ix_list (pe_lst (pa_cons pe_str (pa_cons pe_str pa_nil))) (pe_op op_mod (pe_op op_fdiv (pv 3) pe_int) pe_int) (fun _ _ => rfl))) (pg_sub (pv 5) (pv 4) set_list))
      (pss_one (ps_ret (pe_tup (pa_cons (pv 5) (pa_cons (pe_tup (pa_cons pe_str (pa_cons (pe_callB (call_max2 rfl) rfl T.z_max bo_max (pa_cons (pv 4) (pa_cons pe_int pa_nil))) pa_nil))) pa_nil)))))) pss_nil)
      (pss_mid (ps_if (PW.pt (pw_and (pt_cmpR op_eq (pe_op op_mod (pv 3) pe_int) pe_int (nomark _)) (pw_and (pt_cmpR op_gt (pe_callB (call_len) rfl T.z_len bo_len (pa_cons (pv 2) pa_nil)) pe_int (nomark _)) (pw_and1 (pt_cmpR op_gt (pe_callB (call_len) rfl T.z_len bo_len (pa_cons (pe_ix ix_list (pv 2) pe_int (fun _ _ => rfl)) pa_nil)) pe_int (nomark _)))))) (pss_cons (ps_asg (pe_slice sl_str (pe_ix ix_list (pv 2) (pv 4) (fun _ _ => rfl)) (po_some pe_int) po_none) (pg_sub (pv 5) (pv 4) set_list))
      (pss_one (ps_ret (pe_tup (pa_cons (pv 5) (pa_cons (pe_tup (pa_cons pe_str (pa_cons (pe_callB (call_max2 rfl) rfl T.z_max bo_max (pa_cons (pv 4) (pa_cons pe_int pa_nil))) pa_nil))) pa_nil)))))) pss_nil)
      (pss_mid (ps_set (i := 6) sc_law_spoilt.nd rfl (Or.inr rfl) (pe_op op_mod (pe_op op_fdiv (pv 3) pe_int) (pe_op op_add (pe_callB (call_len) rfl T.z_len bo_len (pa_cons (pe_ix ix_list (pv 2) pe_int (fun _ _ => rfl)) pa_nil)) pe_int)))
      (pss_one (ps_ret (pe_tup (pa_cons (pe_comp (N := ["_law_row_here", "_law_spot"]) rfl (CompSc.freeB (nt := 1) (ix := [6]) rfl (by decide +kernel) (by decide +kernel) (by kernel_rfl) rfl (by kernel_rfl)) (pi_list (pv 2)) (fun _ _ _ _ _ _ _ => (pg_name (i := 0) (show (["_law_row_here", "_law_spot"] : List Str).Nodup by decide +kernel) rfl (Or.inl rfl))) (fun _ _ _ _ _ _ _ => (pe_op op_add_str (pe_op op_add_str (pe_slice sl_str (pv 0) po_none (po_some (pv 1))) pe_str) (pe_slice sl_str (pv 0) (po_some (pv 1)) po_none)))) (pa_cons (pe_tup (pa_cons pe_str (pa_cons pe_int pa_nil))) pa_nil)))))))))))), ?_⟩
    refine ⟨_, rfl, _, rfl, s, t, ns, k, rfl, hC, by omega, fun m hm hm2 => ?_⟩
    have w1 : Same (Wo t H) (Wo t (upd H t (.lst [.int (k + 1)]))) := by rw [Wo.set]; exact Same.refl _
    have ht1 : upd H t (.lst [.int (k + 1)]) t = some (.lst [.int (k + 1)]) := upd_same
    have ha1 : upd H t (.lst [.int (k + 1)]) a = some (.lst (rs.map V.str)) := by rw [upd_ne nat_]; exact ha
    generalize upd H t (.lst [.int (k + 1)]) = H1 at w1 ht1 ha1 ⊢
    -- k
    have e1 := Int.emod_nonneg (m / 6) (show (n : Int) ≠ 0 by omega)
    have e2 := Int.emod_lt_of_pos (m / 6) (show (0 : Int) < (n : Int) by omega)
    obtain ⟨kN, hkN⟩ : ∃ kN : Nat, m / 6 % (n : Int) = (kN : Int) := ⟨_, (Int.toNat_of_nonneg e1).symm⟩
    have hkl : kN < rs.length := by omega
    have hkr := List.getElem?_eq_getElem hkl
    have hrw := (hR.row hkr).1
    have hrok := hR.ok _ (List.mem_of_getElem? hkr)
    generalize rs[kN] = row at hkr hrw hrok
    refine ⟨fun σ' H' => H' = H1 ∧ σ' = [some (.ref s), some (.ref t), some (.ref a), some (.int m), some (.int (kN : Int)), none, none, none, none], ?_, ?_⟩
    · refine ⟨_, rfl, _, _, rfl, rfl, ⟨by decide, by decide⟩, _, rfl, _, _, rfl, .inl ⟨_, SqL.of ha1, rfl⟩, _, _, rfl, rfl, (by show (0 : Int) < (((rs.map V.str).length : Nat) : Int); rw [List.length_map]; omega), rfl, ?_⟩
      rw [← hkN, ← hlen, ← List.length_map (f := V.str)]
      rfl
    rintro σ' H1' ⟨rfl, rfl⟩
    -- made
    refine ⟨_, rfl, a, _, rfl, .inl (SqL.of ha1), fun l hl => ?_⟩
    have s2 : Same H1' (upd H1' l (.lst (rs.map V.str))) := Same.upd hl
    have hl2 : upd H1' l (.lst (rs.map V.str)) l = some (.lst (rs.map V.str)) := upd_same
    generalize upd H1' l (.lst (rs.map V.str)) = H2 at s2 hl2 ⊢
    have nlt : l ≠ t := fun z => by rw [z, ht1] at hl; cases hl
    have hHl : H l = none := Wo.back w1 ht1 hl
    have ha2 := s2 _ _ ha1
    have ht2 := s2 _ _ ht1
    have w2 : Same (Wo t H) (Wo t H2) := w1.trans (Wo.same s2)
    have sa2 := SqL.of (K := K) ha2
    have lns : ∀ {rs' : List Str}, rs'.length = n → (∀ r ∈ rs', r.cps.size ≤ 100) → (∀ r ∈ rs', ∀ c ∈ r.cps.toList, c ≠ 10) → Lns rs' := fun {rs'} h1 h2 h3 => ⟨fun z => by rw [z] at h1; have : 0 = n := h1; omega, fun r hr hc => h3 r hr 10 hc rfl, ⟨by omega, fun r hr => Nat.le_trans (h2 r hr) (by decide)⟩⟩
    have ok10 : ∀ {c : Nat}, okT c → c ≠ 10 := fun {c} h z => by
      rcases h with h | h
      · omega
      · rw [z] at h; exact absurd h (by decide)
    have rs10 : ∀ r ∈ rs, ∀ c ∈ r.cps.toList, c ≠ 10 := fun r hr c hc => ok10 (hR.ok r hr c hc)
    have rssz : ∀ r ∈ rs, r.cps.size ≤ 60 := fun r hr => by rw [hR.wid r hr]; exact hwd
    have atk : atI (rs.map V.str) (kN : Int) = some (.str row) := atI_nat (by rw [List.getElem?_map, hkr]; rfl)
    have at0 : atI (rs.map V.str) ((0 : Nat) : Int) = some (.str r0) := atI_nat (by rw [List.getElem?_map, hr00]; rfl)
    have zr : row.length ≤ sizeLine := Nat.le_trans (show row.cps.size ≤ 100 by omega) (by decide)
    have z0 : r0.length ≤ sizeLine := Nat.le_trans (show r0.cps.size ≤ 100 by omega) (by decide)
    have ixk : ixN (rs.map V.str).length (kN : Int) = some kN := by
      unfold ixN
      rw [if_pos (by omega), if_pos (by rw [List.length_map]; omega)]
      simp
    -- if 1
    refine ⟨fun σ' H' => H' = H2 ∧ σ' = [some (.ref s), some (.ref t), some (.ref a), some (.int m), some (.int (kN : Int)), some (.ref l), none, none, none], ?_, ?_⟩
    · refine ⟨_, rfl, _, _, rfl, rfl, (by show (0 : Int) < 6; decide), _, _, rfl, rfl, _, rfl, ?_⟩
      refine ite_dec (fun c1 => ?_) fun _ => iteF ⟨rfl, rfl⟩
      refine ⟨_, rfl, a, _, _, .str r0, rfl, rfl, sa2, at0, _, _, rfl, ⟨z0, rfl⟩, _, _, rfl, rfl, _, rfl, ?_⟩
      refine ite_dec (fun c2 => ?_) fun _ => ⟨rfl, rfl⟩
      have c2' : (0 : Int) < ((r0.cps.size : Nat) : Int) := c2
      have hwpos : 0 < wd := by omega
      have f1 := Int.emod_nonneg (m / 30) (show (wd : Int) ≠ 0 by omega)
      have f2 := Int.emod_lt_of_pos (m / 30) (show (0 : Int) < (wd : Int) by omega)
      obtain ⟨sp, hsp⟩ : ∃ sp : Nat, m / 30 % (wd : Int) = (sp : Int) := ⟨_, (Int.toNat_of_nonneg f1).symm⟩
      refine ⟨fun σ' H' => H' = H2 ∧ σ' = [some (.ref s), some (.ref t), some (.ref a), some (.int m), some (.int (kN : Int)), some (.ref l), some (.int (sp : Int)), none, none], ?_, ?_⟩
      · refine ⟨_, rfl, _, _, rfl, rfl, ⟨by decide, by decide⟩, _, rfl, a, _, _, .str r0, rfl, rfl, sa2, at0, _, _, rfl, ⟨z0, rfl⟩, _, _, rfl, rfl, (by show (0 : Int) < ((r0.cps.size : Nat) : Int); omega), rfl, ?_⟩
        rw [← hsp, ← hw0]
        rfl
      rintro σ' H2' ⟨rfl, rfl⟩
      -- a quote
      refine ⟨fun σ' H' => ∃ o : Str, o.cps.size = wd ∧ thingsB o = false ∧ (∀ c ∈ o.cps.toList, c ≠ 10) ∧ H' = upd H2' l (.lst ((rs.set kN o).map V.str)) ∧ σ' = [some (.ref s), some (.ref t), some (.ref a), some (.int m), some (.int (kN : Int)), some (.ref l), some (.int (sp : Int)), none, none], ?_, ?_⟩
      · have x1 := slice_lo (x := row) (k := (sp : Int)) (by omega) (by omega)
        have x2 := slice_hi (x := row) (k := (sp : Int) + 1) (by omega) (by omega)
        rw [show ((sp : Int) + 1).toNat = sp + 1 by omega] at x2
        rw [Int.toNat_natCast] at x1
        have l1 : (Txt.slice row none (some (sp : Int))).cps.size ≤ 60 := by rw [← Array.length_toList, x1, List.length_take, Array.length_toList]; omega
        have l2 : (Txt.slice row (some ((sp : Int) + 1)) none).cps.size ≤ 60 := by rw [← Array.length_toList, x2, List.length_drop, Array.length_toList]; omega
        have hspl : sp < row.cps.toList.length := by rw [Array.length_toList]; omega
        refine ⟨_, rfl, _, rfl, a, _, _, .str row, rfl, rfl, sa2, atk, _, rfl, _, rfl, row, rfl, zr, _, _, rfl, rfl, Nat.le_trans (show _ ≤ 100 from Nat.add_le_add l1 (show 1 ≤ 40 by decide)) (by decide), ?_⟩
        refine ⟨_, rfl, _, rfl, a, _, _, .str row, rfl, rfl, sa2, atk, _, rfl, _, _, rfl, rfl, _, rfl, row, rfl, zr, _, _, rfl, rfl, ?_, ?_⟩
        · show (Txt.slice row none (some (sp : Int)) ++ (⟨#[34]⟩ : Str)).cps.size + (Txt.slice row (some ((sp : Int) + 1)) none).cps.size ≤ sizeLine
          rw [strAppSize]
          exact Nat.le_trans (show _ ≤ 200 from Nat.add_le_add (Nat.add_le_add l1 (show 1 ≤ 80 by decide)) l2) (by decide)
        have eo : (Txt.slice row none (some (sp : Int)) ++ Str.ofString "\"" ++ Txt.slice row (some ((sp : Int) + 1)) none).cps.toList = row.cps.toList.set sp 34 := by
          rw [strApp, strApp, x1, x2]
          exact cut_set _ _ _ hspl
        generalize Txt.slice row none (some (sp : Int)) ++ Str.ofString "\"" ++ Txt.slice row (some ((sp : Int) + 1)) none = o at eo
        refine ⟨_, rfl, _, rfl, l, _, _, kN, rfl, rfl, hl2, ixk, o, ?_, th_bad (c := 34) (by rw [eo]; exact List.mem_set hspl 34) (by decide) (by decide), fun c hc => ?_, by rw [List.map_set], rfl⟩
        · rw [← Array.length_toList, eo, List.length_set, Array.length_toList]; exact hrw
        · rw [eo] at hc
          rcases List.mem_or_eq_of_mem_set hc with hc | rfl
          · exact ok10 (hrok c hc)
          · decide
      rintro σ' H4 ⟨o, ho1, ho2, ho3, rfl, rfl⟩
      have hwl : ∀ {xs : List V}, Same (Wo t H) (Wo t (upd H2' l (.lst xs))) := fun {xs} => by rw [Wo.upd_ne nlt]; exact Same.at w2 (Wo.free hHl)
      have htl : ∀ {xs : List V}, upd H2' l (.lst xs) t = some (.lst [.int (k + 1)]) := fun {xs} => by rw [upd_ne nlt.symm]; exact ht2
      have nal : a ≠ l := fun z => by rw [← z, ha1] at hl; cases hl
      have hal : ∀ {xs : List V}, upd H2' l (.lst xs) a = some (.lst (rs.map V.str)) := fun {xs} => by rw [upd_ne nal]; exact ha2
      have hsl : (rs.set kN o).length = n := by rw [List.length_set]; exact hlen
      have hssz : ∀ r ∈ rs.set kN o, r.cps.size ≤ 60 := fun r hr => by
        rcases List.mem_or_eq_of_mem_set hr with hr | rfl
        · exact rssz r hr
        · omega
      have hs10 : ∀ r ∈ rs.set kN o, ∀ c ∈ r.cps.toList, c ≠ 10 := fun r hr => by
        rcases List.mem_or_eq_of_mem_set hr with hr | rfl
        · exact rs10 r hr
        · exact ho3
      refine ⟨_, rfl, ?_⟩
      -- j
      have g1 := Int.emod_nonneg (m / 400) (show (n : Int) ≠ 0 by omega)
      have g2 := Int.emod_lt_of_pos (m / 400) (show (0 : Int) < (n : Int) by omega)
      obtain ⟨jN, hjN⟩ : ∃ jN : Nat, m / 400 % (n : Int) = (jN : Int) := ⟨_, (Int.toNat_of_nonneg g1).symm⟩
      refine ⟨fun σ' H' => H' = upd H2' l (.lst ((rs.set kN o).map V.str)) ∧ σ' = [some (.ref s), some (.ref t), some (.ref a), some (.int m), some (.int (kN : Int)), some (.ref l), some (.int (sp : Int)), some (.int (kN : Int)), some (.int (jN : Int))], ?_, ?_⟩
      · refine ⟨_, rfl, _, _, rfl, rfl, ⟨by decide, by decide⟩, _, rfl, _, _, rfl, .inl ⟨_, SqL.of hal, rfl⟩, _, _, rfl, rfl, (by show (0 : Int) < (((rs.map V.str).length : Nat) : Int); rw [List.length_map]; omega), rfl, ?_⟩
        rw [← hjN, ← hlen, ← List.length_map (f := V.str)]
        rfl
      rintro σ' H5 ⟨rfl, rfl⟩
      -- longer
      refine ⟨fun σ' H' => ∃ (rs' : List Str) (du : Nat), rs'.length = n ∧ (∀ r ∈ rs', r.cps.size ≤ 70) ∧ (∀ r ∈ rs', ∀ c ∈ r.cps.toList, c ≠ 10) ∧ BadL rs' du ∧ (m % 6 = 2 → rs' = rs.set kN o ∧ du = kN) ∧ H' = upd H2' l (.lst (rs'.map V.str)) ∧ σ' = [some (.ref s), some (.ref t), some (.ref a), some (.int m), some (.int (kN : Int)), some (.ref l), some (.int (sp : Int)), some (.int (du : Int)), some (.int (jN : Int))], ?_, ?_⟩
      · have keep : m % 6 ≠ 1 ∨ ¬ 1 < n → ∃ (rs' : List Str) (du : Nat), rs'.length = n ∧ (∀ r ∈ rs', r.cps.size ≤ 70) ∧ (∀ r ∈ rs', ∀ c ∈ r.cps.toList, c ≠ 10) ∧ BadL rs' du ∧ (m % 6 = 2 → rs' = rs.set kN o ∧ du = kN) ∧ upd H2' l (.lst ((rs.set kN o).map V.str)) = upd H2' l (.lst (rs'.map V.str)) ∧ [some (V.ref s), some (.ref t), some (.ref a), some (.int m), some (.int (kN : Int)), some (.ref l), some (.int (sp : Int)), some (.int (kN : Int)), some (.int (jN : Int))] = [some (.ref s), some (.ref t), some (.ref a), some (.int m), some (.int (kN : Int)), some (.ref l), some (.int (sp : Int)), some (.int (du : Int)), some (.int (jN : Int))] := fun _ =>
          ⟨rs.set kN o, kN, hsl, fun r hr => Nat.le_trans (hssz r hr) (by decide), hs10, bad_quote hR (by omega) ho1 ho2, fun _ => ⟨rfl, rfl⟩, rfl, rfl⟩
        refine ⟨_, rfl, _, _, rfl, rfl, (by show (0 : Int) < 6; decide), rfl, _, rfl, ?_⟩
        refine ite_eq (fun c3 => ?_) fun c3 => iteF (keep (.inl c3))
        refine ⟨_, rfl, _, _, rfl, .inl ⟨_, SqL.of hal, rfl⟩, _, _, rfl, rfl, _, rfl, ?_⟩
        refine ite_dec (fun c4 => ?_) fun c4 => keep (.inr fun z => c4 (by rw [List.length_map]; omega))
        have c4' : 1 < n := by rw [List.length_map] at c4; omega
        have hjl : jN < (rs.set kN o).length := by omega
        have hjj := List.getElem?_eq_getElem hjl
        have hjsz := hssz _ (List.getElem_mem hjl)
        have hj10 := hs10 _ (List.getElem_mem hjl)
        generalize (rs.set kN o)[jN] = x at hjj hjsz hj10
        refine ⟨_, rfl, _, rfl, l, _, _, .str x, rfl, rfl, SqL.of upd_same, atI_nat (by rw [List.getElem?_map, hjj]; rfl), _, _, rfl, rfl, Nat.le_trans (show _ ≤ 100 from Nat.add_le_add hjsz (show 1 ≤ 40 by decide)) (by decide), ?_⟩
        refine ⟨_, rfl, _, rfl, l, _, _, jN, rfl, rfl, upd_same, ?_, ?_⟩
        · unfold ixN
          rw [if_pos (by omega), if_pos (by rw [List.length_map]; omega)]
          simp
        have ey : (x ++ Str.ofString "A").cps.toList = x.cps.toList ++ [65] := strApp _ _
        generalize x ++ Str.ofString "A" = y at ey
        refine ⟨_, rfl, _, rfl, _, _, rfl, _, _, rfl, (rs.set kN o).set jN y, min kN (max jN 1), by rw [List.length_set]; exact hsl, fun r hr => ?_, fun r hr c hc => ?_, bad_both hR (by omega) (by omega) c4' ho1 ho2 hjj ey, fun z => (by omega), ?_, ?_⟩
        · rcases List.mem_or_eq_of_mem_set hr with hr | rfl
          · exact Nat.le_trans (hssz r hr) (by decide)
          · rw [← Array.length_toList, ey, List.length_append, Array.length_toList]
            show x.cps.size + 1 ≤ 70
            omega
        · rcases List.mem_or_eq_of_mem_set hr with hr | rfl
          · exact hs10 r hr c hc
          · rw [ey] at hc
            rcases List.mem_append.mp hc with hc | hc
            · exact hj10 c hc
            · rw [List.mem_singleton.mp hc]; decide
        · rw [← List.map_set]
          funext b
          by_cases e : b = l
          · rw [e, upd_same, upd_same]
          · rw [upd_ne e, upd_ne e, upd_ne e]
        · have e : (if (if (1 : Int) > (jN : Int) then (1 : Int) else (jN : Int)) < (kN : Int) then (if (1 : Int) > (jN : Int) then (1 : Int) else (jN : Int)) else (kN : Int)) = ((min kN (max jN 1) : Nat) : Int) := by
            by_cases h1 : (1 : Int) > (jN : Int)
            · rw [if_pos h1]
              by_cases h2 : (1 : Int) < (kN : Int)
              · rw [if_pos h2]; omega
              · rw [if_neg h2]; omega
            · rw [if_neg h1]
              by_cases h2 : (jN : Int) < (kN : Int)
              · rw [if_pos h2]; omega
              · rw [if_neg h2]; omega
          rw [← e]
          rfl
      rintro σ' H6 ⟨rs', du, q1, q2, q3, q4, q5, rfl, rfl⟩
      -- a gap more
      refine ⟨fun σ' H' => ∃ (l' : Addr) (rs'' : List Str), rs''.length = n ∧ (∀ r ∈ rs'', r.cps.size ≤ 100) ∧ (∀ r ∈ rs'', ∀ c ∈ r.cps.toList, c ≠ 10) ∧ BadL rs'' du ∧ H' l' = some (.lst (rs''.map V.str)) ∧ Same (Wo t H) (Wo t H') ∧ H' t = some (.lst [.int (k + 1)]) ∧ σ' = [some (.ref s), some (.ref t), some (.ref a), some (.int m), some (.int (kN : Int)), some (.ref l'), some (.int (sp : Int)), some (.int (du : Int)), some (.int (jN : Int))], ?_, ?_⟩
      · refine ⟨_, rfl, _, _, rfl, rfl, (by show (0 : Int) < 6; decide), rfl, _, rfl, ?_⟩
        refine ite_eq (fun c5 => ?_) fun _ => ⟨l, rs', q1, fun r hr => Nat.le_trans (q2 r hr) (by decide), q3, q4, upd_same, hwl, htl, rfl⟩
        obtain ⟨rfl, rfl⟩ := q5 c5
        have hlm : upd H2' l (.lst ((rs.set du o).map V.str)) l = some (.lst ((rs.set du o).map V.str)) := upd_same
        have hwm : Same (Wo t H) (Wo t (upd H2' l (.lst ((rs.set du o).map V.str)))) := hwl
        have htm : upd H2' l (.lst ((rs.set du o).map V.str)) t = some (.lst [.int (k + 1)]) := htl
        generalize upd H2' l (.lst ((rs.set du o).map V.str)) = H7 at hlm hwm htm ⊢
        refine ⟨_, rfl, l, rfl, ⟨_, SqL.of hlm⟩, fun l5 hl5 => ?_⟩
        refine cm_map n (fun i => V.str ((rs.set du o).getD i ⟨#[]⟩ ++ Str.ofString "-")) hl5 (Nat.lt_of_le_of_lt hn (by decide)) (fun i H8 s8 hi => ?_) (fun H8 s8 => ?_) (fun i y H8 H9 R s8 hi hy hR' => ?_) fun H8 s8 hl8 => ?_
        · exact ⟨_, _, SqL.of (s8 _ _ hlm), by rw [List.getElem?_map, List.getElem?_eq_getElem (by omega)]; rfl⟩
        · exact ⟨_, SqL.of (s8 _ _ hlm), by rw [List.length_map]; omega⟩
        · obtain ⟨rfl, hy⟩ := hy
          have ey := hy _ (SqL.of (s8 _ _ hlm))
          have hil : i < (rs.set du o).length := by omega
          rw [List.getElem?_map, List.getElem?_eq_getElem hil] at ey
          cases ey
          have hz := hssz _ (List.getElem_mem hil)
          refine ⟨Kp.rep _ _, ?_⟩
          refine ⟨_, rfl, _, _, rfl, rfl, Nat.le_trans (show _ ≤ 100 from Nat.add_le_add hz (show 1 ≤ 40 by decide)) (by decide), ?_⟩
          rw [getD_of (List.getElem?_eq_getElem hil)] at hR'
          exact hR' _ (Same.refl _)
        · have em : (List.range n).map (fun i => V.str ((rs.set du o).getD i ⟨#[]⟩ ++ Str.ofString "-")) = ((rs.set du o).map fun r => r ++ Str.ofString "-").map V.str := by
            rw [List.map_map]
            refine List.ext_getElem (by rw [List.length_map, List.length_range, List.length_map, hsl]) fun i h1 h2 => ?_
            have hil : i < (rs.set du o).length := by rw [List.length_map] at h2; exact h2
            rw [List.getElem_map, List.getElem_range, List.getElem_map, getD_of (List.getElem?_eq_getElem hil)]
            rfl
          rw [em] at hl8
          have ef : ∀ r : Str, (r ++ Str.ofString "-").cps.toList = r.cps.toList ++ [45] := fun r => strApp _ _
          refine ⟨l5, (rs.set du o).map fun r => r ++ Str.ofString "-", by rw [List.length_map]; exact hsl, fun y hy => ?_, fun y hy c hc => ?_, bad_tail hR (by omega) ho1 ho2 ef, hl8, hwm.trans (Wo.same s8), s8 _ _ htm, rfl⟩
          · obtain ⟨r, hr, rfl⟩ := List.mem_map.mp hy
            rw [← Array.length_toList, ef, List.length_append, Array.length_toList]
            have := hssz r hr
            show r.cps.size + 1 ≤ 100
            omega
          · obtain ⟨r, hr, rfl⟩ := List.mem_map.mp hy
            rw [ef] at hc
            rcases List.mem_append.mp hc with hc | hc
            · exact hs10 r hr c hc
            · rw [List.mem_singleton.mp hc]; decide
      rintro σ' H7 ⟨l', rs'', p1, p2, p3, p4, p5, p6, p7, rfl⟩
      refine ⟨_, rfl, _, rfl, by show 2 ≤ sizeLine; decide, fun d hd => ⟨by show 2 ≤ sizeLine; decide, fun q hq => ?_⟩⟩
      have s9 : Same H7 (upd (upd H7 d (.tup [.str (Str.ofString "text"), .int (du : Int)])) q (.tup [.ref l', .ref d])) := (Same.upd hd).trans (Same.upd hq)
      exact kk q l' d rs'' _ _ upd_same (s9 _ _ p5) (Same.upd hq _ _ upd_same) (fun f hf => .text (fun z => by rw [p1]; exact hf z) p4) (lns p1 p2 p3) p1 (p6.trans (Wo.same s9)) (s9 _ _ p7)
    rintro σ' H3 ⟨rfl, rfl⟩
    have two : ∀ {o : Str} {H4 : Hp}, Same H3 H4 → 1 < n → o.cps.size ≤ 100 → o.cps.size ≠ wd → (∀ c ∈ o.cps.toList, okT c) → ∀ (D : VK), (∀ q l' d rs' ys H', H' q = some (.tup [.ref l', .ref d]) → H' l' = some (.lst (rs'.map V.str)) → H' d = some (.tup ys) → (∀ f : Bool, (f = true → n = 2) → Tell f rs' ys) → Lns rs' → rs'.length = n → Same (Wo t H) (Wo t H') → H' t = some (.lst [.int (k + 1)]) → D (.ref q) H') → ∀ d q, upd H4 l (.lst ((rs.set kN o).map V.str)) d = none → upd (upd H4 l (.lst ((rs.set kN o).map V.str))) d (.tup [.str (Str.ofString "text"), .int ((max kN 1 : Nat) : Int)]) q = none → D (.ref q) (upd (upd (upd H4 l (.lst ((rs.set kN o).map V.str))) d (.tup [.str (Str.ofString "text"), .int ((max kN 1 : Nat) : Int)])) q (.tup [.ref l, .ref d])) := fun {o H4} s34 hn1 hz hs ho D kD d q hd hq => by
      have s9 := (Same.upd (o := .tup [.str (Str.ofString "text"), .int ((max kN 1 : Nat) : Int)]) hd).trans (Same.upd (o := .tup [.ref l, .ref d]) hq)
      have hsl : (rs.set kN o).length = n := by rw [List.length_set]; exact hlen
      refine kD q l d (rs.set kN o) _ _ upd_same (s9 _ _ upd_same) (Same.upd hq _ _ upd_same) (fun f hf => .text (fun z => by rw [hsl]; exact hf z) (bad_len hR (by omega) hn1 hs (th_ok ho))) (lns hsl (fun r hr => ?_) fun r hr c hc => ?_) hsl ?_ ?_
      · rcases List.mem_or_eq_of_mem_set hr with hr | rfl
        · exact Nat.le_trans (rssz r hr) (by decide)
        · exact hz
      · rcases List.mem_or_eq_of_mem_set hr with hr | rfl
        · exact rs10 r hr c hc
        · exact ok10 (ho c hc)
      · refine Same.trans ?_ (Wo.same s9)
        rw [Wo.upd_ne nlt]
        exact Same.at (w2.trans (Wo.same s34)) (Wo.free hHl)
      · exact s9 _ _ (by rw [upd_ne nlt.symm]; exact s34 _ _ ht2)
    have em : (if (1 : Int) > (kN : Int) then (1 : Int) else (kN : Int)) = ((max kN 1 : Nat) : Int) := by
      by_cases h1 : (1 : Int) > (kN : Int)
      · rw [if_pos h1]; omega
      · rw [if_neg h1]; omega
    -- if 2
    refine ⟨fun σ' H' => H' = H3 ∧ σ' = [some (.ref s), some (.ref t), some (.ref a), some (.int m), some (.int (kN : Int)), some (.ref l), none, none, none], ?_, ?_⟩
    · refine ⟨_, rfl, _, _, rfl, rfl, (by show (0 : Int) < 6; decide), rfl, _, rfl, ?_⟩
      refine ite_eq (fun c1 => ?_) fun _ => iteF ⟨rfl, rfl⟩
      refine ⟨_, rfl, _, _, rfl, .inl ⟨_, sa2, rfl⟩, _, _, rfl, rfl, _, rfl, ?_⟩
      refine ite_dec (fun c2 => ?_) fun _ => ⟨rfl, rfl⟩
      have c2' : 1 < n := by rw [List.length_map] at c2; omega
      refine ⟨_, rfl, _, rfl, a, _, _, .str row, rfl, rfl, sa2, atk, by show 2 ≤ sizeLine; decide, fun ll hll => ?_⟩
      have s4 : Same H3 (upd H3 ll (.lst [.str (Str.ofString "A"), .str (Str.ofString "-")])) := Same.upd hll
      have hll4 : upd H3 ll (.lst [.str (Str.ofString "A"), .str (Str.ofString "-")]) ll = some (.lst [.str (Str.ofString "A"), .str (Str.ofString "-")]) := upd_same
      generalize upd H3 ll (.lst [.str (Str.ofString "A"), .str (Str.ofString "-")]) = H4 at s4 hll4 ⊢
      obtain ⟨z, hz1, hz2⟩ : ∃ z : Nat, atI [V.str (Str.ofString "A"), .str (Str.ofString "-")] (m / 30 % 2) = some (.str ⟨#[z]⟩) ∧ okT z := by
        have h6 : m / 30 % 2 = 0 ∨ m / 30 % 2 = 1 := by omega
        rcases h6 with h | h
        · rw [h]; exact ⟨65, rfl, .inr (by decide)⟩
        · rw [h]; exact ⟨45, rfl, .inl rfl⟩
      refine ⟨_, rfl, _, _, rfl, rfl, ⟨by decide, by decide⟩, _, _, rfl, rfl, (by show (0 : Int) < 2; decide), ll, _, _, _, rfl, rfl, SqL.of hll4, hz1, _, _, rfl, rfl, Nat.le_trans (show row.cps.size + 1 ≤ 100 by omega) (by decide), ?_⟩
      refine ⟨_, rfl, _, rfl, l, _, _, kN, rfl, rfl, s4 _ _ hl2, ixk, ?_⟩
      rw [← List.map_set]
      refine ⟨_, rfl, _, rfl, _, _, rfl, by show 2 ≤ sizeLine; decide, fun d hd => ⟨by show 2 ≤ sizeLine; decide, fun q hq => ?_⟩⟩
      rw [em] at hq ⊢
      have eo : (row ++ (⟨#[z]⟩ : Str)).cps.toList = row.cps.toList ++ [z] := strApp _ _
      have es : (row ++ (⟨#[z]⟩ : Str)).cps.size = wd + 1 := by rw [← Array.length_toList, eo, List.length_append, Array.length_toList, hrw]; rfl
      refine two s4 c2' (by omega) (by omega) (fun c hc => ?_) _ kk d q hd hq
      rw [eo] at hc
      rcases List.mem_append.mp hc with hc | hc
      · exact hrok c hc
      · rw [List.mem_singleton.mp hc]; exact hz2
    rintro σ' H3' ⟨rfl, rfl⟩
    -- if 3
    refine ⟨fun σ' H' => H' = H3' ∧ σ' = [some (.ref s), some (.ref t), some (.ref a), some (.int m), some (.int (kN : Int)), some (.ref l), none, none, none], ?_, ?_⟩
    · refine ⟨_, rfl, _, _, rfl, rfl, (by show (0 : Int) < 6; decide), rfl, _, rfl, ?_⟩
      refine ite_eq (fun c1 => ?_) fun _ => iteF ⟨rfl, rfl⟩
      refine ⟨_, rfl, _, _, rfl, .inl ⟨_, sa2, rfl⟩, _, _, rfl, rfl, _, rfl, ?_⟩
      refine ite_dec (fun c2 => ?_) fun _ => iteF ⟨rfl, rfl⟩
      have c2' : 1 < n := by rw [List.length_map] at c2; omega
      refine ⟨_, rfl, a, _, _, .str r0, rfl, rfl, sa2, at0, _, _, rfl, ⟨z0, rfl⟩, _, _, rfl, rfl, _, rfl, ?_⟩
      refine ite_dec (fun c3 => ?_) fun _ => ⟨rfl, rfl⟩
      have c3' : (0 : Int) < ((r0.cps.size : Nat) : Int) := c3
      have x2 := slice_hi (x := row) (k := 1) (by omega) (by omega)
      refine ⟨_, rfl, _, rfl, a, _, _, .str row, rfl, rfl, sa2, atk, _, rfl, row, rfl, zr, ?_⟩
      have es : (Txt.slice row (some 1) none).cps.size = wd - 1 := by rw [← Array.length_toList, x2, List.length_drop, Array.length_toList, hrw]; rfl
      generalize Txt.slice row (some 1) none = o at x2 es ⊢
      refine ⟨_, rfl, _, rfl, l, _, _, kN, rfl, rfl, hl2, ixk, ?_⟩
      rw [← List.map_set]
      refine ⟨_, rfl, _, rfl, _, _, rfl, by show 2 ≤ sizeLine; decide, fun d hd => ⟨by show 2 ≤ sizeLine; decide, fun q hq => ?_⟩⟩
      rw [em] at hq ⊢
      refine two (Same.refl _) c2' (by omega) (by omega) (fun c hc => ?_) _ kk d q hd hq
      rw [x2] at hc
      exact hrok c (List.mem_of_mem_drop hc)
    rintro σ' H4 ⟨rfl, rfl⟩
    -- a column of gaps
    have f1 := Int.emod_nonneg (m / 30) (show ((wd : Int) + 1) ≠ 0 by omega)
    have f2 := Int.emod_lt_of_pos (m / 30) (show (0 : Int) < ((wd : Int) + 1) by omega)
    obtain ⟨sp, hsp⟩ : ∃ sp : Nat, m / 30 % ((wd : Int) + 1) = (sp : Int) := ⟨_, (Int.toNat_of_nonneg f1).symm⟩
    refine ⟨fun σ' H' => H' = H4 ∧ σ' = [some (.ref s), some (.ref t), some (.ref a), some (.int m), some (.int (kN : Int)), some (.ref l), some (.int (sp : Int)), none, none], ?_, ?_⟩
    · refine ⟨_, rfl, _, _, rfl, rfl, ⟨by decide, by decide⟩, _, rfl, a, _, _, .str r0, rfl, rfl, sa2, at0, _, _, rfl, ⟨z0, rfl⟩, _, _, rfl, rfl, _, _, rfl, rfl, (by show (0 : Int) < ((r0.cps.size : Nat) : Int) + 1; omega), rfl, ?_⟩
      rw [← hsp, ← hw0]
      rfl
    rintro σ' H5 ⟨rfl, rfl⟩
    refine ⟨_, rfl, a, rfl, ⟨_, sa2⟩, fun l5 hl5 => ?_⟩
    refine cm_map n (fun i => V.str (wide sp (rs.getD i ⟨#[]⟩))) hl5 (Nat.lt_of_le_of_lt hn (by decide)) (fun i H8 s8 hi => ?_) (fun H8 s8 => ?_) (fun i y H8 H9 R s8 hi hy hR' => ?_) fun H8 s8 hl8 => ?_
    · exact ⟨_, _, Same.seq s8 sa2, by rw [List.getElem?_map, List.getElem?_eq_getElem (by omega)]; rfl⟩
    · exact ⟨_, Same.seq s8 sa2, by rw [List.length_map]; omega⟩
    · obtain ⟨rfl, hy⟩ := hy
      have ey := hy _ (Same.seq s8 sa2)
      have hil : i < rs.length := by omega
      have hii := List.getElem?_eq_getElem hil
      have hz := rssz _ (List.getElem_mem hil)
      have hzw := hR.wid _ (List.getElem_mem hil)
      generalize rs[i] = r at hii hz hzw
      rw [List.getElem?_map, hii] at ey
      cases ey
      have hzl : r.length ≤ sizeLine := Nat.le_trans hz (by decide)
      have x1 := slice_lo (x := r) (k := (sp : Int)) (by omega) (by omega)
      have x2 := slice_hi (x := r) (k := (sp : Int)) (by omega) (by omega)
      rw [Int.toNat_natCast] at x1 x2
      have l1 : (Txt.slice r none (some (sp : Int))).cps.size ≤ 60 := by rw [← Array.length_toList, x1, List.length_take, Array.length_toList]; omega
      have l2 : (Txt.slice r (some (sp : Int)) none).cps.size ≤ 60 := by rw [← Array.length_toList, x2, List.length_drop, Array.length_toList]; omega
      refine ⟨Kp.set0, ?_⟩
      refine ⟨_, rfl, _, rfl, _, rfl, r, rfl, hzl, _, _, rfl, rfl, Nat.le_trans (show _ ≤ 100 from Nat.add_le_add l1 (show 1 ≤ 40 by decide)) (by decide), ?_⟩
      refine ⟨_, rfl, _, rfl, _, rfl, r, rfl, hzl, _, _, rfl, rfl, ?_, ?_⟩
      · show (Txt.slice r none (some (sp : Int)) ++ (⟨#[45]⟩ : Str)).cps.size + (Txt.slice r (some (sp : Int)) none).cps.size ≤ sizeLine
        rw [strAppSize]
        exact Nat.le_trans (show _ ≤ 200 from Nat.add_le_add (Nat.add_le_add l1 (show 1 ≤ 80 by decide)) l2) (by decide)
      have ew : Txt.slice r none (some (sp : Int)) ++ Str.ofString "-" ++ Txt.slice r (some (sp : Int)) none = wide sp r := by
        refine strExt (Array.toList_inj.mp ?_)
        rw [strApp, strApp, x1, x2]
        rfl
      rw [ew]
      rw [getD_of hii] at hR'
      exact hR' _ (Same.refl _)
    · have em2 : (List.range n).map (fun i => V.str (wide sp (rs.getD i ⟨#[]⟩))) = (rs.map (wide sp)).map V.str := by
        rw [List.map_map]
        refine List.ext_getElem (by rw [List.length_map, List.length_range, List.length_map, hlen]) fun i h1 h2 => ?_
        have hil : i < rs.length := by rw [List.length_map] at h2; exact h2
        rw [List.getElem_map, List.getElem_range, List.getElem_map, getD_of (List.getElem?_eq_getElem hil)]
        rfl
      rw [em2] at hl8
      obtain ⟨g1, g2⟩ := wide_ok hR hn0 (show sp ≤ wd by omega)
      have hsl : (rs.map (wide sp)).length = n := by rw [List.length_map]; exact hlen
      refine ⟨by show 2 ≤ sizeLine; decide, fun d hd => ⟨by show 2 ≤ sizeLine; decide, fun q hq => ?_⟩⟩
      have s9 := (Same.upd (o := .tup [.str (Str.ofString "block"), .int 0]) hd).trans (Same.upd (o := .tup [.ref l5, .ref d]) hq)
      refine kk q l5 d (rs.map (wide sp)) _ _ upd_same (s9 _ _ hl8) (Same.upd hq _ _ upd_same) (fun f hf => .block (fun z => by rw [hsl]; exact hf z) g1 g2) (lns hsl (fun y hy => ?_) fun y hy c hc => ?_) hsl (w2.trans (Wo.same (s8.trans s9))) ((s8.trans s9) _ _ ht2)
      · obtain ⟨r, hr, rfl⟩ := List.mem_map.mp hy
        show (r.cps.toList.take sp ++ [45] ++ r.cps.toList.drop sp).length ≤ 100
        have := rssz r hr
        rw [List.length_append, List.length_append, List.length_take, List.length_drop, Array.length_toList]
        simp only [List.length_singleton]
        omega
      · obtain ⟨r, hr, rfl⟩ := List.mem_map.mp hy
        have hc' : c ∈ r.cps.toList.take sp ++ [45] ++ r.cps.toList.drop sp := hc
        rcases List.mem_append.mp hc' with hc | hc
        · rcases List.mem_append.mp hc with hc | hc
          · exact rs10 r hr c (List.mem_of_mem_take hc)
          · rw [List.mem_singleton.mp hc]; decide
        · exact rs10 r hr c (List.mem_of_mem_drop hc)
end
section
variable {P : Program} {w : World} {K : PySem.W.Frag} {mg : Str → Option Value} {base : Heap}
theorem ok_law_laying {f_law_laying f_law_next f_written_laying f_law_told f_law_same f_law_spoilt : Addr} {fd_law_laying fd_law_next fd_written_laying fd_law_told fd_law_same fd_law_spoilt : FuncData} {p : Pm} (T : Txt K mg p w) (D_law_laying : Dn K mg "_law_laying" s_law_laying ["_law_script", "_law_at", "_law_signs_here"] f_law_laying fd_law_laying) (D_law_next : Dn K mg "_law_next" s_law_next ["_law_script", "_law_at"] f_law_next fd_law_next) (G_law_next : FnOk P w K mg base CX0 1 f_law_next fd_law_next ["_law_script", "_law_at"] (spNext K)) (D_written_laying : Dn K mg "written_laying" s_written_laying ["first", "second", "moves"] f_written_laying fd_written_laying) (G_written_laying : FnOk P w K mg base CX0 7 f_written_laying fd_written_laying ["first", "second", "moves"] (spWrL K)) (D_law_told : Dn K mg "_law_told" s_law_told ["_law_text", "_law_laying_here"] f_law_told fd_law_told) (G_law_told : FnOk P w K mg base CX0 10 f_law_told fd_law_told ["_law_text", "_law_laying_here"] (spTold67 K p.C_Block)) (D_law_same : Dn K mg "_law_same" s_law_same ["_law_found", "_law_due"] f_law_same fd_law_same) (G_law_same : FnOk P w K mg base CX0 3 f_law_same fd_law_same ["_law_found", "_law_due"] (spSameE K 2)) (D_law_spoilt : Dn K mg "_law_spoilt" s_law_spoilt ["_law_script", "_law_at", "_law_rows"] f_law_spoilt fd_law_spoilt) (G_law_spoilt : FnOk P w K mg base CX0 2 f_law_spoilt fd_law_spoilt ["_law_script", "_law_at", "_law_rows"] (spSpoilt67 K)) : FnOk P w K mg base CX0 11 f_law_laying fd_law_laying ["_law_script", "_law_at", "_law_signs_here"] (spLayW K) := by
  refine D_law_laying.fn.ok sc_law_laying (fun vs H Q E h => ?_) (fun cdv A outer s H vs Q E hr h => ?_)
  · obtain ⟨s, t, ns, k, sg, rfl, _⟩ := h
    rfl
  · obtain ⟨s, t, ns, k, sg, rfl, hC, hk, hg0, hg, hgs, kk⟩ := h
    have k0 := hC.k0
    have hz : sg.length ≤ sizeLine := Nat.le_trans hg (by decide)
    have pick : ∀ i : Int, 0 ≤ i → ∃ c, atI sg.cps.toList (i % ((sg.cps.size : Nat) : Int)) = some c ∧ isSignN c = true := fun i hi => by
      have i1 := Int.emod_nonneg i (show ((sg.cps.size : Nat) : Int) ≠ 0 by omega)
      have i2 := Int.emod_lt_of_pos i (show (0 : Int) < ((sg.cps.size : Nat) : Int) by omega)
      obtain ⟨j, hj⟩ : ∃ j : Nat, i % ((sg.cps.size : Nat) : Int) = (j : Int) := ⟨_, (Int.toNat_of_nonneg i1).symm⟩
      have hjl : j < sg.cps.toList.length := by rw [Array.length_toList]; omega
      exact ⟨sg.cps.toList[j], by rw [hj]; exact atI_nat (List.getElem?_eq_getElem hjl), hgs _ (List.getElem_mem hjl)⟩
    refine ⟨_, (pss_cons (ps_set (i := 3) sc_law_laying.nd rfl (Or.inl rfl) pe_str)
      (pss_cons (ps_set (i := 4) sc_law_laying.nd rfl (Or.inl rfl) (pe_lst (pa_cons pe_str (pa_cons pe_str (pa_cons pe_str (pa_cons pe_str pa_nil))))))
      (pss_cons (ps_for PassesOwn.never rfl (pi_range1 rfl T.z_range (pa_cons (pe_op op_mod (pe_call G_law_next (hr.mono (by decide)) rfl D_law_next.m D_law_next.fn.kp D_law_next.b .nil pass0 (pa_cons (pv 0) (pa_cons (pv 1) pa_nil))) pe_int) pa_nil)) (pg_name (i := 5) sc_law_laying.nd rfl (Or.inl rfl)) (pss_cons (ps_set (i := 6) sc_law_laying.nd rfl (Or.inl rfl) (pe_call G_law_next (hr.mono (by decide)) rfl D_law_next.m D_law_next.fn.kp D_law_next.b .nil pass0 (pa_cons (pv 0) (pa_cons (pv 1) pa_nil))))
      (pss_cons (ps_set (i := 3) sc_law_laying.nd rfl (Or.inl rfl) (pe_op op_add_str (pv 3) (pe_ix ix_str pe_str (pe_op op_mod (pv 6) pe_int) (fun _ _ => rfl))))
      (pss_cons (ps_set (i := 7) sc_law_laying.nd rfl (Or.inl rfl) (pe_ix ix_str (pv 2) (pe_op op_mod (pe_op op_fdiv (pv 6) pe_int) (pe_callB (call_len) rfl T.z_len bo_len (pa_cons (pv 2) pa_nil))) (fun _ _ => rfl)))
      (pss_cons (ps_set (i := 8) sc_law_laying.nd rfl (Or.inl rfl) (pe_ix ix_str (pv 2) (pe_op op_mod (pe_op op_fdiv (pv 6) pe_int) (pe_callB (call_len) rfl T.z_len bo_len (pa_cons (pv 2) pa_nil))) (fun _ _ => rfl)))
      (pss_mid (ps_if (pt_cmpR op_eq (pe_op op_mod (pv 6) pe_int) pe_int (nomark _)) (pss_one (ps_set (i := 8) sc_law_laying.nd rfl (Or.inl rfl) pe_str)) pss_nil)
      (pss_mid (ps_if (pt_cmpR op_eq (pe_op op_mod (pv 6) pe_int) pe_int (nomark _)) (pss_one (ps_set (i := 7) sc_law_laying.nd rfl (Or.inl rfl) pe_str)) pss_nil)
      (pss_one (ps_set (i := 4) sc_law_laying.nd rfl (Or.inl rfl) (pe_lst (pa_cons (pe_op op_add_str (pe_ix ix_list (pv 4) pe_int (fun _ _ => rfl)) (pv 7)) (pa_cons (pe_op op_add_str (pe_ix ix_list (pv 4) pe_int (fun _ _ => rfl)) (pv 8)) (pa_cons (pe_op op_add_str (pe_ix ix_list (pv 4) pe_int (fun _ _ => rfl)) (pe_orS (pv 7) (pe_one pe_str))) (pa_cons (pe_op op_add_str (pe_ix ix_list (pv 4) pe_int (fun _ _ => rfl)) (pe_orS (pv 8) (pe_one pe_str))) pa_nil))))))))))))))
      (pss_mid (ps_set (i := 9) sc_law_laying.nd rfl (Or.inl rfl) (pe_op op_add_str (pe_op op_add_str (pe_ix ix_list (pv 4) pe_int (fun _ _ => rfl)) pe_str) (pe_ix ix_list (pv 4) pe_int (fun _ _ => rfl))))
      (pss_mid (ps_set (i := 10) sc_law_laying.nd rfl (Or.inl rfl) (pe_call G_written_laying (hr.mono (by decide)) rfl D_written_laying.m D_written_laying.fn.kp D_written_laying.b .nil pass0 (pa_cons (pe_ix ix_list (pv 4) pe_int (fun _ _ => rfl)) (pa_cons (pe_ix ix_list (pv 4) pe_int (fun _ _ => rfl)) (pa_cons (pv 3) pa_nil)))))
      (pss_mid (ps_if (PW.pt (pw_or (pt_not (pt_val (pe_callB (call_isinst) rfl T.z_isinstance bo_isinstance (pa_cons (pv 10) (pa_cons (pe_bltn (v := .ty "str") rfl T.z_str bo_str rfl) pa_nil))))) (pw_or1 (pt_cmpR op_ne (pv 10) (pv 9) (nomark _))))) (pss_one (ps_ret pe_bl)) pss_nil)
      (pss_mid (ps_if (pt_not (pt_val (pe_call G_law_same (hr.mono (by decide)) rfl D_law_same.m D_law_same.fn.kp D_law_same.b .nil pass0 (pa_cons (pe_call G_law_told (hr.mono (by decide)) rfl D_law_told.m D_law_told.fn.kp D_law_told.b .nil pass0 (pa_cons (pv 9) (pa_cons pe_bl pa_nil))) (pa_cons (pe_tup (pa_cons pe_str (pa_cons (pe_tup (pa_cons (pe_ix ix_list (pv 4) pe_int (fun _ _ => rfl)) (pa_cons (pe_ix ix_list (pv 4) pe_int (fun _ _ => rfl)) (pa_cons (pv 3) pa_nil)))) pa_nil))) pa_nil))))) (pss_one (ps_ret pe_bl)) pss_nil)
      (pss_mid (ps_asg (pe_call G_law_spoilt (hr.mono (by decide)) rfl D_law_spoilt.m D_law_spoilt.fn.kp D_law_spoilt.b .nil pass0 (pa_cons (pv 0) (pa_cons (pv 1) (pa_cons (pe_slice sl_list (pv 4) (po_some pe_int) po_none) pa_nil)))) (pg_tup (n := 2) rfl (pgs_cons (pg_name (i := 11) sc_law_laying.nd rfl (Or.inl rfl)) (pgs_cons (pg_name (i := 12) sc_law_laying.nd rfl (Or.inl rfl)) pgs_nil))))
      (pss_mid (ps_if (pt_not (pt_val (pe_call G_law_same (hr.mono (by decide)) rfl D_law_same.m D_law_same.fn.kp D_law_same.b .nil pass0 (pa_cons (pe_call G_law_told (hr.mono (by decide)) rfl D_law_told.m D_law_told.fn.kp D_law_told.b .nil pass0 (pa_cons (pe_bm PySem.F.plainAttrs_str PySem.F.slot_str_join PySem.F.type_str_join (mt_joinS rfl) pe_str (pa_cons (pv 11) pa_nil)) (pa_cons pe_bl pa_nil))) (pa_cons (pv 12) pa_nil))))) (pss_one (ps_ret pe_bl)) pss_nil)
      (pss_cons (ps_for PassesOwn.never rfl (pi_list (pe_lst (pa_cons (pe_ix ix_list (pv 4) pe_int (fun _ _ => rfl)) (pa_cons (pe_op op_add_str (pe_op op_add_str (pv 9) pe_str) (pe_ix ix_list (pv 4) pe_int (fun _ _ => rfl))) pa_nil)))) (pg_name (i := 13) sc_law_laying.nd rfl (Or.inl rfl)) (pss_one (ps_if (pt_not (pt_val (pe_call G_law_same (hr.mono (by decide)) rfl D_law_same.m D_law_same.fn.kp D_law_same.b .nil pass0 (pa_cons (pe_call G_law_told (hr.mono (by decide)) rfl D_law_told.m D_law_told.fn.kp D_law_told.b .nil pass0 (pa_cons (pv 13) (pa_cons pe_bl pa_nil))) (pa_cons (pe_tup (pa_cons pe_str (pa_cons pe_int pa_nil))) pa_nil))))) (pss_one (ps_ret pe_bl)) pss_nil)))
      (pss_one (ps_ret pe_bl)))))))))))), ?_⟩
    refine ⟨by show 4 ≤ sizeLine; decide, fun l0 hl0 => ?_⟩
    have s1 : Same H (upd H l0 (.lst [.str ⟨#[]⟩, .str ⟨#[]⟩, .str ⟨#[]⟩, .str ⟨#[]⟩])) := Same.upd hl0
    have hl1 : upd H l0 (.lst [.str ⟨#[]⟩, .str ⟨#[]⟩, .str ⟨#[]⟩, .str ⟨#[]⟩]) l0 = some (.lst [.str ⟨#[]⟩, .str ⟨#[]⟩, .str ⟨#[]⟩, .str ⟨#[]⟩]) := upd_same
    generalize hH1 : upd H l0 (.lst [.str ⟨#[]⟩, .str ⟨#[]⟩, .str ⟨#[]⟩, .str ⟨#[]⟩]) = H1 at s1 hl1
    have hH1' : upd H l0 (.lst [V.str (Str.ofString ""), V.str (Str.ofString ""), V.str (Str.ofString ""), V.str (Str.ofString "")]) = H1 := hH1
    rw [hH1']
    have C1 := hC.same s1
    refine ⟨_, rfl, _, rfl, s, t, ns, k, rfl, C1, by omega, fun m0 hm0 hm0' => ?_⟩
    have w2 : Same (Wo t H) (Wo t (upd H1 t (.lst [.int (k + 1)]))) := by rw [Wo.set]; exact Wo.same s1
    have ht2 : upd H1 t (.lst [.int (k + 1)]) t = some (.lst [.int (k + 1)]) := upd_same
    have nl0 : l0 ≠ t := fun z => by rw [z, hC.at_] at hl0; cases hl0
    have hl2 : upd H1 t (.lst [.int (k + 1)]) l0 = some (.lst [.str ⟨#[]⟩, .str ⟨#[]⟩, .str ⟨#[]⟩, .str ⟨#[]⟩]) := by rw [upd_ne nl0]; exact hl1
    generalize upd H1 t (.lst [.int (k + 1)]) = H2 at w2 ht2 hl2 ⊢
    have hm14 := Int.emod_nonneg m0 (show (14 : Int) ≠ 0 by decide)
    have hm14' := Int.emod_lt_of_pos m0 (show (0 : Int) < 14 by decide)
    obtain ⟨N, hN⟩ : ∃ N : Nat, m0 % 14 = (N : Int) := ⟨_, (Int.toNat_of_nonneg hm14).symm⟩
    refine ⟨_, _, rfl, rfl, (by show (0 : Int) < 14; decide), (N : Int), (by rw [← hN]), by omega, by omega, ?_⟩
    rw [show ((N : Nat) : Int).toNat = N by omega]
    refine for_range (lo := 0) (n := N) (fun i σ H3 => ∃ (f s' g h : List Nat) (mv : List Nat) (l : Addr) (v5 v6 v7 v8 : Option V), Lay f s' g h mv ∧ mv.length = i ∧ H3 l = some (.lst [.str (st f), .str (st s'), .str (st g), .str (st h)]) ∧ Same (Wo t H) (Wo t H3) ∧ H3 t = some (.lst [.int (k + 1 + (i : Int))]) ∧ σ = [some (.ref s), some (.ref t), some (.str sg), some (.str (st mv)), some (.ref l), v5, v6, v7, v8, none, none, none, none, none]) ⟨[], [], [], [], [], l0, _, _, _, _, .nil, rfl, hl2, w2, by rw [ht2]; simp, rfl⟩ ?_ ?_
    · rintro i σ H3 hi ⟨f, s', g, h, mv, l, v5, v6, v7, v8, L, hml, hl3, w3, ht3, rfl⟩
      have C3 : Ctr K H3 s t ns (k + 1 + (i : Int)) := hC.off w3 ht3 (by omega)
      refine ⟨_, rfl, _, rfl, s, t, ns, _, rfl, C3, by omega, fun m hm hm2 => ?_⟩
      have nlt : l ≠ t := fun z => by rw [z, ht3] at hl3; cases hl3
      have hl4 : upd H3 t (.lst [.int (k + 1 + (i : Int) + 1)]) l = some (.lst [.str (st f), .str (st s'), .str (st g), .str (st h)]) := by rw [upd_ne nlt]; exact hl3
      have w4 : Same (Wo t H) (Wo t (upd H3 t (.lst [.int (k + 1 + (i : Int) + 1)]))) := by rw [Wo.set]; exact w3
      have ht4 : upd H3 t (.lst [.int (k + 1 + (i : Int) + 1)]) t = some (.lst [.int (k + 1 + ((i + 1 : Nat) : Int))]) := by
        rw [upd_same]
        simp only [Int.natCast_add, Int.natCast_one, Int.add_assoc]
      generalize upd H3 t (.lst [.int (k + 1 + (i : Int) + 1)]) = H4 at hl4 w4 ht4 ⊢
      obtain ⟨a, ha, hsa⟩ := pick (m / 3) (Int.ediv_nonneg hm (by decide))
      obtain ⟨b, hb, hsb⟩ := pick (m / 300) (Int.ediv_nonneg hm (by decide))
      obtain ⟨hfl, hsl, hgl, hhl⟩ : f.length ≤ 20 ∧ s'.length ≤ 20 ∧ g.length ≤ 20 ∧ h.length ≤ 20 := by
        have e1 := L.len
        have e2 := L.bare
        refine ⟨?_, ?_, by omega, by omega⟩
        · rw [← e2.1]; exact Nat.le_trans (List.length_filter_le _ _) (by omega)
        · rw [← e2.2]; exact Nat.le_trans (List.length_filter_le _ _) (by omega)
      have sl4 := SqL.of (K := K) hl4
      obtain ⟨c, hc⟩ : ∃ c, atI (Str.ofString "pab").cps.toList (m % 3) = some c ∧ ((m % 3 = 0 ∧ c = 112) ∨ (m % 3 = 1 ∧ c = 97) ∨ (m % 3 = 2 ∧ c = 98)) := by
        have h3 : m % 3 = 0 ∨ m % 3 = 1 ∨ m % 3 = 2 := by omega
        rcases h3 with h3 | h3 | h3 <;> rw [h3]
        · exact ⟨112, by decide +kernel, .inl ⟨rfl, rfl⟩⟩
        · exact ⟨97, by decide +kernel, .inr (.inl ⟨rfl, rfl⟩)⟩
        · exact ⟨98, by decide +kernel, .inr (.inr ⟨rfl, rfl⟩)⟩
      have fit : ∀ {x : List Nat}, x.length ≤ 20 → (st x).length + 1 ≤ sizeLine := fun {x} hx => Nat.le_trans (show x.length + 1 ≤ 100 by omega) (by decide)
      have fit0 : ∀ {x : List Nat}, x.length ≤ 20 → (st x).length + 0 ≤ sizeLine := fun {x} hx => Nat.le_trans (show x.length + 0 ≤ 100 by omega) (by decide)
      refine ⟨_, rfl, _, rfl, _, _, rfl, rfl, (by show (0 : Int) < 3; decide), Str.ofString "pab", _, c, rfl, rfl, (by decide +kernel), hc.1, _, _, rfl, rfl, fit (by omega), ?_⟩
      refine ⟨_, rfl, _, rfl, _, _, rfl, rfl, ⟨by decide, by decide⟩, _, rfl, _, _, rfl, ⟨hz, rfl⟩, _, _, rfl, rfl, (by show (0 : Int) < ((sg.cps.size : Nat) : Int); omega), sg, _, a, rfl, rfl, hz, ha, ?_⟩
      refine ⟨_, rfl, _, rfl, _, _, rfl, rfl, ⟨by decide, by decide⟩, _, rfl, _, _, rfl, ⟨hz, rfl⟩, _, _, rfl, rfl, (by show (0 : Int) < ((sg.cps.size : Nat) : Int); omega), sg, _, b, rfl, rfl, hz, hb, ?_⟩
      refine ⟨fun σ' H' => H' = H4 ∧ ∃ bb : Str, (m % 3 = 1 → bb = ⟨#[]⟩) ∧ (m % 3 ≠ 1 → bb = ⟨#[b]⟩) ∧ σ' = [some (.ref s), some (.ref t), some (.str sg), some (.str (st (mv ++ [c]))), some (.ref l), some (.int (0 + (i : Int))), some (.int m), some (.str ⟨#[a]⟩), some (.str bb), none, none, none, none, none], ?_, ?_⟩
      · refine ⟨_, rfl, _, _, rfl, rfl, (by show (0 : Int) < 3; decide), rfl, _, rfl, ?_⟩
        rw [← st_snoc]
        refine ite_eq (fun z => ?_) fun z => ?_
        · exact ⟨rfl, ⟨#[]⟩, fun _ => rfl, fun y => absurd z y, rfl⟩
        · exact ⟨rfl, ⟨#[b]⟩, fun y => absurd y z, fun _ => rfl, rfl⟩
      rintro σ' H5 ⟨rfl, bb, hb1, hb2, rfl⟩
      refine ⟨fun σ' H' => H' = H5 ∧ ∃ aa : Str, (m % 3 = 2 → aa = ⟨#[]⟩) ∧ (m % 3 ≠ 2 → aa = ⟨#[a]⟩) ∧ σ' = [some (.ref s), some (.ref t), some (.str sg), some (.str (st (mv ++ [c]))), some (.ref l), some (.int (0 + (i : Int))), some (.int m), some (.str aa), some (.str bb), none, none, none, none, none], ?_, ?_⟩
      · refine ⟨_, rfl, _, _, rfl, rfl, (by show (0 : Int) < 3; decide), rfl, _, rfl, ?_⟩
        refine ite_eq (fun z => ?_) fun z => ?_
        · exact ⟨rfl, ⟨#[]⟩, fun _ => rfl, fun y => absurd z y, rfl⟩
        · exact ⟨rfl, ⟨#[a]⟩, fun y => absurd y z, fun _ => rfl, rfl⟩
      rintro σ' H6 ⟨rfl, aa, ha1, ha2, rfl⟩
      have fin : ∀ {f' s2 g' h' : List Nat}, Lay f' s2 g' h' (mv ++ [c]) → ∀ {v5 v6 v7 v8 : Option V} {l' : Addr} {xs : List V}, H6 l' = none → xs = [.str (st f'), .str (st s2), .str (st g'), .str (st h')] → ∃ (f s' g h : List Nat) (mv' : List Nat) (l : Addr) (v5' v6' v7' v8' : Option V), Lay f s' g h mv' ∧ mv'.length = i + 1 ∧ upd H6 l' (.lst xs) l = some (.lst [.str (st f), .str (st s'), .str (st g), .str (st h)]) ∧ Same (Wo t H) (Wo t (upd H6 l' (.lst xs))) ∧ upd H6 l' (.lst xs) t = some (.lst [.int (k + 1 + ((i + 1 : Nat) : Int))]) ∧ [some (V.ref s), some (.ref t), some (.str sg), some (.str (st (mv ++ [c]))), some (.ref l'), v5, v6, v7, v8, none, none, none, none, none] = [some (.ref s), some (.ref t), some (.str sg), some (.str (st mv')), some (.ref l), v5', v6', v7', v8', none, none, none, none, none] := fun {f' s2 g' h'} L' {v5 v6 v7 v8 l' xs} hn hx => by
        have nl' : l' ≠ t := fun z => by rw [z, ht4] at hn; cases hn
        exact ⟨f', s2, g', h', mv ++ [c], l', _, _, _, _, L', by rw [List.length_append, hml]; rfl, by rw [upd_same, hx], w4.trans (Wo.same (Same.upd hn)), by rw [upd_ne nl'.symm]; exact ht4, rfl⟩
      rcases hc.2 with ⟨z, hcc⟩ | ⟨z, hcc⟩ | ⟨z, hcc⟩
      · have ea := ha2 (by omega)
        have eb := hb2 (by omega)
        subst ea eb
        rw [hcc] at fin ⊢
        refine ⟨_, rfl, l, _, _, .str (st f), rfl, rfl, sl4, rfl, _, rfl, _, _, rfl, rfl, fit hfl, ?_⟩
        refine ⟨_, rfl, l, _, _, .str (st s'), rfl, rfl, sl4, rfl, _, rfl, _, _, rfl, rfl, fit hsl, ?_⟩
        refine ⟨_, rfl, l, _, _, .str (st g), rfl, rfl, sl4, rfl, _, rfl, _, rfl, (by first | exact (show 1 ≤ 100000 by decide) | exact (show 0 ≤ 100000 by decide)), ifP (show ¬ 1 = 0 by decide) ⟨_, _, rfl, rfl, fit hgl, ?_⟩⟩
        refine ⟨_, rfl, l, _, _, .str (st h), rfl, rfl, sl4, rfl, _, rfl, _, rfl, (by first | exact (show 1 ≤ 100000 by decide) | exact (show 0 ≤ 100000 by decide)), ifP (show ¬ 1 = 0 by decide) ⟨_, _, rfl, rfl, fit hhl, ?_⟩⟩
        refine ⟨by show 4 ≤ sizeLine; decide, fun l' hl' => fin (.p L hsa hsb) hl' ?_⟩
        simp only [← st_snoc, st_nil]
        all_goals rfl
      · have ea := ha2 (by omega)
        have eb := hb1 z
        subst ea eb
        rw [hcc] at fin ⊢
        refine ⟨_, rfl, l, _, _, .str (st f), rfl, rfl, sl4, rfl, _, rfl, _, _, rfl, rfl, fit hfl, ?_⟩
        refine ⟨_, rfl, l, _, _, .str (st s'), rfl, rfl, sl4, rfl, _, rfl, _, _, rfl, rfl, fit0 hsl, ?_⟩
        refine ⟨_, rfl, l, _, _, .str (st g), rfl, rfl, sl4, rfl, _, rfl, _, rfl, (by first | exact (show 1 ≤ 100000 by decide) | exact (show 0 ≤ 100000 by decide)), ifP (show ¬ 1 = 0 by decide) ⟨_, _, rfl, rfl, fit hgl, ?_⟩⟩
        refine ⟨_, rfl, l, _, _, .str (st h), rfl, rfl, sl4, rfl, _, rfl, _, rfl, (by first | exact (show 1 ≤ 100000 by decide) | exact (show 0 ≤ 100000 by decide)), ifZ rfl ⟨_, _, rfl, rfl, fit hhl, ?_⟩⟩
        refine ⟨by show 4 ≤ sizeLine; decide, fun l' hl' => fin (.a L hsa) hl' ?_⟩
        simp only [← st_snoc, st_nil]
        all_goals rfl
      · have ea := ha1 z
        have eb := hb2 (by omega)
        subst ea eb
        rw [hcc] at fin ⊢
        refine ⟨_, rfl, l, _, _, .str (st f), rfl, rfl, sl4, rfl, _, rfl, _, _, rfl, rfl, fit0 hfl, ?_⟩
        refine ⟨_, rfl, l, _, _, .str (st s'), rfl, rfl, sl4, rfl, _, rfl, _, _, rfl, rfl, fit hsl, ?_⟩
        refine ⟨_, rfl, l, _, _, .str (st g), rfl, rfl, sl4, rfl, _, rfl, _, rfl, (by first | exact (show 1 ≤ 100000 by decide) | exact (show 0 ≤ 100000 by decide)), ifZ rfl ⟨_, _, rfl, rfl, fit hgl, ?_⟩⟩
        refine ⟨_, rfl, l, _, _, .str (st h), rfl, rfl, sl4, rfl, _, rfl, _, rfl, (by first | exact (show 1 ≤ 100000 by decide) | exact (show 0 ≤ 100000 by decide)), ifP (show ¬ 1 = 0 by decide) ⟨_, _, rfl, rfl, fit hhl, ?_⟩⟩
        refine ⟨by show 4 ≤ sizeLine; decide, fun l' hl' => fin (.b L hsb) hl' ?_⟩
        simp only [← st_snoc, st_nil]
        all_goals rfl
    · rintro σ H3 ⟨f, s', g, h, mv, l, v5, v6, v7, v8, L, hml, hl3, w3, ht3, rfl⟩
      obtain ⟨hfl, hsl, hgl, hhl⟩ : f.length ≤ 20 ∧ s'.length ≤ 20 ∧ g.length ≤ 20 ∧ h.length ≤ 20 := by
        have e1 := L.len
        have e2 := L.bare
        refine ⟨?_, ?_, by omega, by omega⟩
        · rw [← e2.1]; exact Nat.le_trans (List.length_filter_le _ _) (by omega)
        · rw [← e2.2]; exact Nat.le_trans (List.length_filter_le _ _) (by omega)
      have nlt : l ≠ t := fun z => by rw [z, ht3] at hl3; cases hl3
      have hR := L.rs
      obtain ⟨hgd, hco⟩ := hR.good (by decide)
      have hLn := hR.lns (by decide) (by decide) (by omega)
      have hjl : (jn [st g, st h]).cps.size ≤ 100 := by
        show (st g ++ (⟨#[10]⟩ : Str) ++ st h).cps.size ≤ 100
        rw [strAppSize, strAppSize]
        show g.length + 1 + h.length ≤ 100
        omega
      have sl3 := SqL.of (K := K) hl3
      -- text
      refine ⟨fun σ' H' => H' = H3 ∧ σ' = [some (.ref s), some (.ref t), some (.str sg), some (.str (st mv)), some (.ref l), v5, v6, v7, v8, some (.str (jn [st g, st h])), none, none, none, none], ?_, ?_⟩
      · refine ⟨_, rfl, l, _, _, .str (st g), rfl, rfl, sl3, rfl, _, _, rfl, rfl, Nat.le_trans (show g.length + 1 ≤ 100 by omega) (by decide), _, rfl, l, _, _, .str (st h), rfl, rfl, sl3, rfl, _, _, rfl, rfl, ?_, rfl, rfl⟩
        show (st g ++ (⟨#[10]⟩ : Str)).cps.size + h.length ≤ sizeLine
        rw [strAppSize]
        exact Nat.le_trans (show g.length + 1 + h.length ≤ 100 by omega) (by decide)
      rintro σ' H3' ⟨rfl, rfl⟩
      -- found
      refine ⟨fun σ' H' => Same H3' H' ∧ σ' = [some (.ref s), some (.ref t), some (.str sg), some (.str (st mv)), some (.ref l), v5, v6, v7, v8, some (.str (jn [st g, st h])), some (.str (jn [st g, st h])), none, none, none], ?_, ?_⟩
      · exact ⟨_, rfl, l, _, _, .str (st f), rfl, rfl, sl3, rfl, _, rfl, l, _, _, .str (st s'), rfl, rfl, sl3, rfl, _, rfl, st f, st s', st mv, g, h, rfl, L, (by show mv.length ≤ 100; omega), fun H' s4 => ⟨s4, rfl⟩⟩
      rintro σ' H4 ⟨s4, rfl⟩
      refine ⟨fun σ' H' => Same H3' H' ∧ σ' = [some (.ref s), some (.ref t), some (.str sg), some (.str (st mv)), some (.ref l), v5, v6, v7, v8, some (.str (jn [st g, st h])), some (.str (jn [st g, st h])), none, none, none], ?_, ?_⟩
      · refine ⟨_, rfl, _, _, _, _, rfl, .str _, kit_same, _, rfl, iteNT ?_⟩
        refine ⟨_, rfl, _, rfl, rfl, _, rfl, ?_⟩
        rw [decide_eq_true rfl]
        exact iteNT ⟨s4, rfl⟩
      rintro σ' H5 ⟨s5, rfl⟩
      -- read
      refine ⟨fun σ' H' => Same H3' H' ∧ σ' = [some (.ref s), some (.ref t), some (.str sg), some (.str (st mv)), some (.ref l), v5, v6, v7, v8, some (.str (jn [st g, st h])), some (.str (jn [st g, st h])), none, none, none], ?_, ?_⟩
      · refine ⟨_, rfl, [st g, st h], true, rfl, hLn, .inr (.inl ⟨rfl, st g, st h, rfl, hgd, hco, fun q q2 H6 s6 hq hq2 => ?_⟩)⟩
        have s56 := s5.trans s6
        have sl6 := SqL.of (K := K) (s56 _ _ hl3)
        refine ⟨_, rfl, l, _, _, .str (st f), rfl, rfl, sl6, rfl, _, rfl, l, _, _, .str (st s'), rfl, rfl, sl6, rfl, _, rfl, by show 3 ≤ sizeLine; decide, fun d2 hd2 => ⟨by show 2 ≤ sizeLine; decide, fun d hd => ?_⟩⟩
        have t1 : Same H6 (upd H6 d2 (.tup [.str (st f), .str (st s'), .str (st mv)])) := Same.upd hd2
        have t2 := Same.upd (o := .tup [.str (Str.ofString "read"), .ref d2]) hd
        have e1 : strike 45 (st g) = st f := by
          show (⟨(g.filter (· != 45)).toArray⟩ : Str) = _
          rw [L.bare.1]
        have e2 : strike 45 (st h) = st s' := by
          show (⟨(h.filter (· != 45)).toArray⟩ : Str) = _
          rw [L.bare.2]
        have e3 : mvS (st g) (st h) = st mv := by
          have z := L.mv
          rw [← L.len.1] at z
          show (⟨((List.range g.length).map fun k => mvC (g.getD k 0) (h.getD k 0)).toArray⟩ : Str) = _
          rw [z]
        rw [e1, e2, e3] at hq2
        refine ⟨.ref q, .ref d, rfl, EqD.two (Same.tup (t1.trans t2) hq) (SqT.of upd_same) (.flat (.inl ⟨_, rfl, rfl⟩)) (EqD.strD (rs := [st f, st s', st mv]) (Same.tup (t1.trans t2) hq2) (SqT.of (t2 _ _ upd_same)) (by show 3 ≤ 100; decide)), fun H8 s8 => ⟨_, rfl, iteNT ⟨(s56.trans (t1.trans t2)).trans s8, rfl⟩⟩⟩
      rintro σ' H6 ⟨s6, rfl⟩
      have C6 : Ctr K H6 s t ns (k + 1 + (N : Int)) := (hC.off w3 ht3 (by omega)).same s6
      -- spoilt
      refine ⟨fun σ' H' => ∃ (l' d : Addr) (rs' : List Str) (ys : List V), H' l' = some (.lst (rs'.map V.str)) ∧ H' d = some (.tup ys) ∧ Tell true rs' ys ∧ Lns rs' ∧ H' l = some (.lst [.str (st f), .str (st s'), .str (st g), .str (st h)]) ∧ Same (Wo t H) (Wo t H') ∧ H' t = some (.lst [.int (k + 1 + (N : Int) + 1)]) ∧ σ' = [some (.ref s), some (.ref t), some (.str sg), some (.str (st mv)), some (.ref l), v5, v6, v7, v8, some (.str (jn [st g, st h])), some (.str (jn [st g, st h])), some (.ref l'), some (.ref d), none], ?_, ?_⟩
      · refine ⟨_, rfl, _, rfl, _, rfl, _, rfl, l, _, rfl, SqL.of (s6 _ _ hl3), fun p1 hp1 => ?_⟩
        have hp2 : upd H6 p1 (.lst (cutV [.str (st f), .str (st s'), .str (st g), .str (st h)] (some 2) none)) p1 = some (.lst ([st g, st h].map V.str)) := by rw [upd_same]; rfl
        have s7 : Same H6 (upd H6 p1 (.lst (cutV [.str (st f), .str (st s'), .str (st g), .str (st h)] (some 2) none))) := Same.upd hp1
        have np1 : p1 ≠ t := fun z => by rw [z, C6.at_] at hp1; cases hp1
        refine ⟨s, t, p1, ns, k + 1 + (N : Int), [st g, st h], 2, mv.length, rfl, C6.same s7, by omega, hp2, np1, hR, by decide, by decide, by omega, fun q l' d rs' ys H8 hq hl8 hd8 hT hLn' hlen8 w8 ht8 => ?_⟩
        refine ⟨q, _, rfl, SqT.of hq, rfl, _, _, rfl, _, _, rfl, rfl, ?_⟩
        exact ⟨l', d, rs', ys, hl8, hd8, hT true (fun _ => rfl), hLn', Wo.sub _ _ (w8 _ _ (Wo.in nlt (s7 _ _ (s6 _ _ hl3)))), (w3.trans (Wo.same (s6.trans s7))).trans w8, ht8, rfl⟩
      rintro σ' H7 ⟨l', d, rs', ys, hl7, hd7, hT, hLn', hrow7, w7, ht7, rfl⟩
      -- the spoilt text
      refine ⟨fun σ' H' => Same H7 H' ∧ σ' = [some (.ref s), some (.ref t), some (.str sg), some (.str (st mv)), some (.ref l), v5, v6, v7, v8, some (.str (jn [st g, st h])), some (.str (jn [st g, st h])), some (.ref l'), some (.ref d), none], ?_, ?_⟩
      · refine ⟨rfl, _, rfl, _, l', rs', rfl, rfl, .inl (SqL.of hl7), (by show 1 ≤ 1; decide), fun z hz => Nat.le_trans (hLn'.sm.row z hz) (by decide), Nat.le_trans hLn'.sm.len (by decide), ?_⟩
        refine ⟨rs', true, rfl, hLn', .inl ⟨ys, hT, fun q H8 s8 hq => ?_⟩⟩
        exact ⟨_, rfl, .ref q, .ref d, rfl, EqD.tell hT hq (SqT.of (s8 _ _ hd7)), fun H9 s9 => ⟨_, rfl, iteNT ⟨s8.trans s9, rfl⟩⟩⟩
      rintro σ' H8 ⟨s8, rfl⟩
      have sl8 := SqL.of (K := K) (s8 _ _ hrow7)
      have w8 := w7.trans (Wo.same s8)
      have ht8 := s8 _ _ ht7
      -- too few rows, too many
      have hLg : Lns [st g] := ⟨by simp, fun r hr => hLn.free r (by rw [List.mem_singleton.mp hr]; exact List.mem_cons_self), ⟨by show 1 ≤ 100; decide, fun r hr => hLn.sm.row r (by rw [List.mem_singleton.mp hr]; exact List.mem_cons_self)⟩⟩
      have hm3 : ∀ r ∈ [st g, st h, st g], r ∈ [st g, st h] := fun r hr => by
        rcases List.mem_cons.mp hr with e | hr
        · rw [e]; exact List.mem_cons_self
        · rcases List.mem_cons.mp hr with e | hr
          · rw [e]; exact List.mem_cons_of_mem _ List.mem_cons_self
          · rw [List.mem_singleton.mp hr]; exact List.mem_cons_self
      have hL3 : Lns [st g, st h, st g] := ⟨by simp, fun r hr => hLn.free r (hm3 r hr), ⟨by show 3 ≤ 100; decide, fun r hr => hLn.sm.row r (hm3 r hr)⟩⟩
      have e3 : jn [st g, st h] ++ Str.ofString "\n" ++ st g = jn [st g, st h, st g] := by
        show st g ++ (⟨#[10]⟩ : Str) ++ st h ++ (⟨#[10]⟩ : Str) ++ st g = st g ++ (⟨#[10]⟩ : Str) ++ (st h ++ (⟨#[10]⟩ : Str) ++ st g)
        exact strExt (Array.toList_inj.mp (by simp only [strApp, List.append_assoc]))
      refine ⟨_, rfl, l, _, _, .str (st g), rfl, rfl, sl8, rfl, _, rfl, _, _, rfl, rfl, Nat.le_trans (show _ ≤ 200 from Nat.add_le_add hjl (show 1 ≤ 100 by decide)) (by decide), _, rfl, l, _, _, .str (st g), rfl, rfl, sl8, rfl, _, _, rfl, rfl, ?_, by show 2 ≤ sizeLine; decide, fun ls hls => ?_⟩
      · show (jn [st g, st h] ++ (⟨#[10]⟩ : Str)).cps.size + g.length ≤ sizeLine
        rw [strAppSize]
        exact Nat.le_trans (show _ ≤ 400 from Nat.add_le_add (Nat.add_le_add hjl (show 1 ≤ 100 by decide)) (show g.length ≤ 200 by omega)) (by decide)
      rw [e3] at *
      have s9 : Same H8 (upd H8 ls (.lst [.str (jn [st g]), .str (jn [st g, st h, st g])])) := Same.upd hls
      have hls9 : upd H8 ls (.lst [.str (jn [st g]), .str (jn [st g, st h, st g])]) ls = some (.lst [.str (jn [st g]), .str (jn [st g, st h, st g])]) := upd_same
      generalize hH9 : upd H8 ls (.lst [.str (jn [st g]), .str (jn [st g, st h, st g])]) = H9 at s9 hls9
      have hH9' : upd H8 ls (.lst [.str (st g), .str (jn [st g, st h, st g])]) = H9 := hH9
      rw [hH9']
      refine ⟨ls, rfl, ⟨_, SqL.of hls9⟩, for_list (K := K) (a := ls) (xs := [.str (jn [st g]), .str (jn [st g, st h, st g])]) (fun i σ' H' => Same H9 H' ∧ ∃ v13, σ' = [some (.ref s), some (.ref t), some (.str sg), some (.str (st mv)), some (.ref l), v5, v6, v7, v8, some (.str (jn [st g, st h])), some (.str (jn [st g, st h])), some (.ref l'), some (.ref d), v13]) ⟨Same.refl _, _, rfl⟩ (fun i σ' H' _ ⟨e, _⟩ => SqL.of (e _ _ hls9)) ?_ ?_⟩
      · rintro i y σ' H10 hy ⟨s10, v13, rfl⟩
        obtain ⟨rs2, rfl, hL2, hne2⟩ : ∃ rs2, y = .str (jn rs2) ∧ Lns rs2 ∧ rs2.length ≠ 2 := by
          match i, hy with
          | 0, hy => cases hy; exact ⟨_, rfl, hLg, show 1 ≠ 2 by decide⟩
          | 1, hy => cases hy; exact ⟨_, rfl, hL3, show 3 ≠ 2 by decide⟩
        refine ⟨_, rfl, rs2, true, rfl, hL2, .inl ⟨_, .two hne2, fun q H11 s11 hq => ?_⟩⟩
        refine ⟨by show 2 ≤ sizeLine; decide, fun d3 hd3 => ?_⟩
        exact ⟨.ref q, .ref d3, rfl, EqD.tell (.two hne2) (Same.tup (Same.upd hd3) hq) (SqT.of upd_same), fun H12 s12 => ⟨_, rfl, iteNT ⟨((s10.trans s11).trans (Same.upd hd3)).trans s12, _, rfl⟩⟩⟩
      · rintro σ' H10 ⟨s10, v13, rfl⟩
        have sf := s9.trans s10
        exact kk _ H10 (w8.trans (Wo.same sf)) (sf _ _ ht8) (by omega) (by omega)
end
section
variable {P : Program} {w : World} {K : PySem.W.Frag} {mg : Str → Option Value} {base : Heap}
theorem ok_law_one {f_law_one f_law_next f_law_signs f_law_columns f_written_block f_Block___init__ f_law_told f_law_same f_law_spoilt f_law_laying : Addr} {fd_law_one fd_law_next fd_law_signs fd_law_columns fd_written_block fd_Block___init__ fd_law_told fd_law_same fd_law_spoilt fd_law_laying : FuncData} {p : Pm} (T : Txt K mg p w) (D_law_one : Dn K mg "_law_one" s_law_one ["_law_script", "_law_at"] f_law_one fd_law_one) (D_law_next : Dn K mg "_law_next" s_law_next ["_law_script", "_law_at"] f_law_next fd_law_next) (G_law_next : FnOk P w K mg base CX0 1 f_law_next fd_law_next ["_law_script", "_law_at"] (spNext K)) (D_law_signs : Dn K mg "_law_signs" s_law_signs ["_law_script", "_law_at", "_law_many"] f_law_signs fd_law_signs) (G_law_signs : FnOk P w K mg base CX0 2 f_law_signs fd_law_signs ["_law_script", "_law_at", "_law_many"] (spSigns K)) (D_law_columns : Dn K mg "_law_columns" s_law_columns ["_law_script", "_law_at", "_law_signs_here", "_law_high", "_law_wide"] f_law_columns fd_law_columns) (G_law_columns : FnOk P w K mg base CX0 2 f_law_columns fd_law_columns ["_law_script", "_law_at", "_law_signs_here", "_law_high", "_law_wide"] (spColsW K)) (D_written_block : Dn K mg "written_block" s_written_block ["block"] f_written_block fd_written_block) (G_written_block : FnOk P w K mg base CX0 1 f_written_block fd_written_block ["block"] (spWrB K p.C_Block)) (D_Block___init__ : Dm K "__init__" "Block.__init__" s_Block___init__ ["self", "rows"] f_Block___init__ fd_Block___init__) (M_Block : Mk K p.C_Block f_Block___init__) (G_Block___init__ : FnOk P w K mg base CX0 5 f_Block___init__ fd_Block___init__ ["self", "rows"] (nv (spBlock K p.C_Block p.C_NoBlock))) (D_law_told : Dn K mg "_law_told" s_law_told ["_law_text", "_law_laying_here"] f_law_told fd_law_told) (G_law_told : FnOk P w K mg base CX0 10 f_law_told fd_law_told ["_law_text", "_law_laying_here"] (spTold67 K p.C_Block)) (D_law_same : Dn K mg "_law_same" s_law_same ["_law_found", "_law_due"] f_law_same fd_law_same) (G_law_same : FnOk P w K mg base CX0 3 f_law_same fd_law_same ["_law_found", "_law_due"] (spSameE K 2)) (D_law_spoilt : Dn K mg "_law_spoilt" s_law_spoilt ["_law_script", "_law_at", "_law_rows"] f_law_spoilt fd_law_spoilt) (G_law_spoilt : FnOk P w K mg base CX0 2 f_law_spoilt fd_law_spoilt ["_law_script", "_law_at", "_law_rows"] (spSpoilt67 K)) (D_law_laying : Dn K mg "_law_laying" s_law_laying ["_law_script", "_law_at", "_law_signs_here"] f_law_laying fd_law_laying) (G_law_laying : FnOk P w K mg base CX0 11 f_law_laying fd_law_laying ["_law_script", "_law_at", "_law_signs_here"] (spLayW K)) : FnOk P w K mg base CX0 12 f_law_one fd_law_one ["_law_script", "_law_at"] (spOne67 K) := by
  refine D_law_one.fn.ok sc_law_one (fun vs H Q E h => ?_) (fun cdv A outer s H vs Q E hr h => ?_)
  · obtain ⟨s, t, ns, k, rfl, _⟩ := h
    rfl
  · obtain ⟨s, t, ns, k, rfl, hC, hk, kk⟩ := h
    have k0 := hC.k0
    refine ⟨_, (pss_mid (ps_set (i := 2) sc_law_one.nd rfl (Or.inl rfl) (pe_call G_law_signs (hr.mono (by decide)) rfl D_law_signs.m D_law_signs.fn.kp D_law_signs.b .nil pass0 (pa_cons (pv 0) (pa_cons (pv 1) (pa_cons (pe_op op_add pe_int (pe_op op_mod (pe_call G_law_next (hr.mono (by decide)) rfl D_law_next.m D_law_next.fn.kp D_law_next.b .nil pass0 (pa_cons (pv 0) (pa_cons (pv 1) pa_nil))) pe_int)) pa_nil)))))
      (pss_mid (ps_set (i := 3) sc_law_one.nd rfl (Or.inl rfl) (pe_op op_add pe_int (pe_op op_mod (pe_call G_law_next (hr.mono (by decide)) rfl D_law_next.m D_law_next.fn.kp D_law_next.b .nil pass0 (pa_cons (pv 0) (pa_cons (pv 1) pa_nil))) pe_int)))
      (pss_mid (ps_set (i := 4) sc_law_one.nd rfl (Or.inl rfl) (pe_call G_law_columns (hr.mono (by decide)) rfl D_law_columns.m D_law_columns.fn.kp D_law_columns.b .nil pass0 (pa_cons (pv 0) (pa_cons (pv 1) (pa_cons (pv 2) (pa_cons (pv 3) (pa_cons (pe_op op_mod (pe_call G_law_next (hr.mono (by decide)) rfl D_law_next.m D_law_next.fn.kp D_law_next.b .nil pass0 (pa_cons (pv 0) (pa_cons (pv 1) pa_nil))) pe_int) pa_nil)))))))
      (pss_mid (ps_set (i := 5) sc_law_one.nd rfl (Or.inl rfl) (pe_bm PySem.F.plainAttrs_str PySem.F.slot_str_join PySem.F.type_str_join (mt_joinS rfl) pe_str (pa_cons (pv 4) pa_nil)))
      (pss_mid (ps_set (i := 6) sc_law_one.nd rfl (Or.inl rfl) (pe_call G_written_block (hr.mono (by decide)) rfl D_written_block.m D_written_block.fn.kp D_written_block.b .nil pass0 (pa_cons (pe_make M_Block G_Block___init__ (hr.mono (by decide)) rfl T.mg_Block D_Block___init__.b .nil pass0 (pa_cons (pv 4) pa_nil)) pa_nil)))
      (pss_mid (ps_if (PW.pt (pw_or (pt_not (pt_val (pe_callB (call_isinst) rfl T.z_isinstance bo_isinstance (pa_cons (pv 6) (pa_cons (pe_bltn (v := .ty "str") rfl T.z_str bo_str rfl) pa_nil))))) (pw_or1 (pt_cmpR op_ne (pv 6) (pv 5) (nomark _))))) (pss_one (ps_ret pe_bl)) pss_nil)
      (pss_mid (ps_asg (pe_call G_law_spoilt (hr.mono (by decide)) rfl D_law_spoilt.m D_law_spoilt.fn.kp D_law_spoilt.b .nil pass0 (pa_cons (pv 0) (pa_cons (pv 1) (pa_cons (pv 4) pa_nil)))) (pg_tup (n := 2) rfl (pgs_cons (pg_name (i := 7) sc_law_one.nd rfl (Or.inl rfl)) (pgs_cons (pg_name (i := 8) sc_law_one.nd rfl (Or.inl rfl)) pgs_nil))))
      (pss_mid (ps_if (pt_not (pt_val (pe_call G_law_same (hr.mono (by decide)) rfl D_law_same.m D_law_same.fn.kp D_law_same.b .nil pass0 (pa_cons (pe_call G_law_told (hr.mono (by decide)) rfl D_law_told.m D_law_told.fn.kp D_law_told.b .nil pass0 (pa_cons (pe_bm PySem.F.plainAttrs_str PySem.F.slot_str_join PySem.F.type_str_join (mt_joinS rfl) pe_str (pa_cons (pv 7) pa_nil)) (pa_cons pe_bl pa_nil))) (pa_cons (pv 8) pa_nil))))) (pss_one (ps_ret pe_bl)) pss_nil)
      (pss_mid (ps_set (i := 9) sc_law_one.nd rfl (Or.inl rfl) (pe_call G_law_told (hr.mono (by decide)) rfl D_law_told.m D_law_told.fn.kp D_law_told.b .nil pass0 (pa_cons (pv 5) (pa_cons pe_bl pa_nil))))
      (pss_mid (ps_if (PW.pt (pw_or (pt_cmpR op_ne (pe_ix ix_tup (pv 9) pe_int (fun _ _ => rfl)) pe_str (nomark _)) (pw_or (pt_not (pt_val (pe_callB (call_isinstI) rfl T.z_isinstance bo_isinstance (pa_cons (pe_ix ix_tup (pv 9) pe_int (fun _ _ => rfl)) (pa_cons (pe_glob (v := .ref p.C_Block) rfl T.mg_Block rfl) pa_nil))))) (pw_or1 (pt_not (pt_val (pe_call G_law_same (hr.mono (by decide)) rfl D_law_same.m D_law_same.fn.kp D_law_same.b .nil pass0 (pa_cons (pe_fld (pe_ix ix_tup (pv 9) pe_int (fun _ _ => rfl)) rfl) (pa_cons (pe_callTy (call_tuple_of) rfl T.z_tuple bo_tuple (pa_cons (pv 4) pa_nil)) pa_nil))))))))) (pss_one (ps_ret pe_bl)) pss_nil)
      (pss_one (ps_ret (pe_call G_law_laying (hr.mono (by decide)) rfl D_law_laying.m D_law_laying.fn.kp D_law_laying.b .nil pass0 (pa_cons (pv 0) (pa_cons (pv 1) (pa_cons (pv 2) pa_nil)))))))))))))))), ?_⟩
    -- signs
    refine ⟨fun σ' H' => ∃ sg : Str, Signs sg ∧ sg.cps.size ≤ 12 ∧ Same (Wo t H) (Wo t H') ∧ H' t = some (.lst [.int (k + 2)]) ∧ σ' = [some (.ref s), some (.ref t), some (.str sg), none, none, none, none, none, none, none], ?_, ?_⟩
    · refine ⟨_, rfl, _, rfl, _, rfl, _, rfl, s, t, ns, k, rfl, hC, by omega, fun m hm hm2 => ?_⟩
      have C1 : Ctr K (upd H t (.lst [.int (k + 1)])) s t ns (k + 1) := hC.step (by omega)
      have w1 : Same (Wo t H) (Wo t (upd H t (.lst [.int (k + 1)]))) := by rw [Wo.set]; exact Same.refl _
      generalize upd H t (.lst [.int (k + 1)]) = H1 at C1 w1 ⊢
      refine ⟨_, _, rfl, rfl, (by show (0 : Int) < 6; decide), _, _, rfl, rfl, s, t, ns, k + 1, _, rfl, C1, by omega, by omega, by omega, fun sg hsg h12 => ?_⟩
      exact ⟨sg, hsg, h12, by rw [Wo.set]; exact w1, by rw [upd_same, Int.add_assoc]; rfl, rfl⟩
    rintro σ' H2 ⟨sg, hsg, h12, w2, ht2, rfl⟩
    have C2 : Ctr K H2 s t ns (k + 2) := hC.off w2 ht2 (by omega)
    -- high
    refine ⟨fun σ' H' => ∃ n : Nat, 0 < n ∧ n ≤ 5 ∧ Same (Wo t H) (Wo t H') ∧ H' t = some (.lst [.int (k + 3)]) ∧ σ' = [some (.ref s), some (.ref t), some (.str sg), some (.int (n : Int)), none, none, none, none, none, none], ?_, ?_⟩
    · refine ⟨_, rfl, _, rfl, s, t, ns, k + 2, rfl, C2, by omega, fun m hm hm2 => ?_⟩
      refine ⟨_, _, rfl, rfl, (by show (0 : Int) < 5; decide), _, _, rfl, rfl, ?_⟩
      obtain ⟨n, hn⟩ : ∃ n : Nat, 1 + m % 5 = (n : Int) := ⟨(1 + m % 5).toNat, by omega⟩
      refine ⟨n, by omega, by omega, by rw [Wo.set]; exact w2, by rw [upd_same, Int.add_assoc]; rfl, ?_⟩
      rw [← hn]
      rfl
    rintro σ' H3 ⟨n, hn0, hn5, w3, ht3, rfl⟩
    have C3 : Ctr K H3 s t ns (k + 3) := hC.off w3 ht3 (by omega)
    -- rows
    refine ⟨fun σ' H' => ∃ (a : Addr) (rs : List Str) (wd : Nat) (k' : Int), wd ≤ 13 ∧ RsOk rs n wd ∧ H' a = some (.lst (rs.map V.str)) ∧ a ≠ t ∧ Same (Wo t H) (Wo t H') ∧ H' t = some (.lst [.int k']) ∧ k ≤ k' ∧ k' ≤ k + 700 ∧ σ' = [some (.ref s), some (.ref t), some (.str sg), some (.int (n : Int)), some (.ref a), none, none, none, none, none], ?_, ?_⟩
    · refine ⟨_, rfl, _, rfl, _, rfl, _, rfl, _, rfl, _, rfl, s, t, ns, k + 3, rfl, C3, by omega, fun m hm hm2 => ?_⟩
      have C4 : Ctr K (upd H3 t (.lst [.int (k + 3 + 1)])) s t ns (k + 3 + 1) := C3.step (by omega)
      have w4 : Same (Wo t H) (Wo t (upd H3 t (.lst [.int (k + 3 + 1)]))) := by rw [Wo.set]; exact w3
      generalize upd H3 t (.lst [.int (k + 3 + 1)]) = H4 at C4 w4 ⊢
      obtain ⟨wd, hwd⟩ : ∃ wd : Nat, m % 13 = (wd : Int) := ⟨(m % 13).toNat, by omega⟩
      refine ⟨_, _, rfl, rfl, (by show (0 : Int) < 13; decide), s, t, ns, k + 3 + 1, sg, n, wd, ?_, C4, by omega, hn0, by omega, by omega, hsg.1, h12, hsg.2.2.1, fun l rs k' H' hR hl hln w5 ht5 b1 b2 => ?_⟩
      · show [V.ref s, .ref t, .str sg, .int (n : Int), .int (m % 13)] = _
        rw [hwd]
      · exact ⟨l, rs, wd, k', by omega, hR, hl, (fun z => by rw [z, C4.at_] at hln; cases hln), w4.trans w5, ht5, by omega, by omega, rfl⟩
    rintro σ' H4 ⟨a, rs, wd, k4, hwd, hR, ha, nat_, w4, ht4, b1, b2, rfl⟩
    have hLn := hR.lns hn0 (by omega) (by omega)
    obtain ⟨hgd, hco⟩ := hR.good hn0
    have hlen := hR.len
    -- text
    refine ⟨fun σ' H' => H' = H4 ∧ σ' = [some (.ref s), some (.ref t), some (.str sg), some (.int (n : Int)), some (.ref a), some (.str (jn rs)), none, none, none, none], ?_, ?_⟩
    · exact ⟨rfl, _, rfl, _, a, rs, rfl, rfl, .inl (SqL.of ha), (by show 1 ≤ 1; decide), fun z hz => Nat.le_trans (hLn.sm.row z hz) (by decide), Nat.le_trans hLn.sm.len (by decide), rfl, rfl⟩
    rintro σ' H5 ⟨rfl, rfl⟩
    -- found
    refine ⟨fun σ' H' => Same H5 H' ∧ σ' = [some (.ref s), some (.ref t), some (.str sg), some (.int (n : Int)), some (.ref a), some (.str (jn rs)), some (.str (jn rs)), none, none, none], ?_, ?_⟩
    · refine ⟨_, rfl, fun o dx ho hdx ndx => ?_⟩
      have s7 : Same H5 (upd (upd H5 dx (.own o)) o (.ins p.C_Block dx [])) := Same.at (Same.upd hdx) ho
      refine ⟨o, dx, _, rs, rfl, upd_same, ⟨a, rfl, .inl (SqL.of (s7 _ _ ha))⟩, hLn.sm, fun _ H8 q1 q2 => ⟨rfl, ?_⟩, fun z => (by rw [hR.block hn0] at z; cases z)⟩
      exact ⟨o, rs, rfl, q2, hLn.sm, fun c u hc => q1 _ _ (s7 _ _ hc) (fun z => by rw [z, ho] at hc; cases hc), rfl⟩
    rintro σ' H6 ⟨s6, rfl⟩
    refine ⟨fun σ' H' => Same H5 H' ∧ σ' = [some (.ref s), some (.ref t), some (.str sg), some (.int (n : Int)), some (.ref a), some (.str (jn rs)), some (.str (jn rs)), none, none, none], ?_, ?_⟩
    · refine ⟨_, rfl, _, _, _, _, rfl, .str _, kit_same, _, rfl, iteNT ?_⟩
      refine ⟨_, rfl, _, rfl, rfl, _, rfl, ?_⟩
      rw [decide_eq_true rfl]
      exact iteNT ⟨s6, rfl⟩
    rintro σ' H7 ⟨s7, rfl⟩
    have C7 : Ctr K H7 s t ns k4 := (hC.off w4 ht4 (by omega)).same s7
    -- spoilt
    refine ⟨fun σ' H' => ∃ (l' d : Addr) (rs' : List Str) (ys : List V), H' l' = some (.lst (rs'.map V.str)) ∧ H' d = some (.tup ys) ∧ Tell false rs' ys ∧ Lns rs' ∧ H' a = some (.lst (rs.map V.str)) ∧ Same (Wo t H) (Wo t H') ∧ H' t = some (.lst [.int (k4 + 1)]) ∧ σ' = [some (.ref s), some (.ref t), some (.str sg), some (.int (n : Int)), some (.ref a), some (.str (jn rs)), some (.str (jn rs)), some (.ref l'), some (.ref d), none], ?_, ?_⟩
    · refine ⟨_, rfl, _, rfl, _, rfl, s, t, a, ns, k4, rs, n, wd, rfl, C7, by omega, s7 _ _ ha, nat_, hR, hn0, by omega, by omega, fun q l' d rs' ys H8 hq hl8 hd8 hT hLn' hlen8 w8 ht8 => ?_⟩
      refine ⟨q, _, rfl, SqT.of hq, rfl, _, _, rfl, _, _, rfl, rfl, ?_⟩
      exact ⟨l', d, rs', ys, hl8, hd8, hT false (fun z => nomatch z), hLn', Wo.sub _ _ (w8 _ _ (Wo.in nat_ (s7 _ _ ha))), (w4.trans (Wo.same s7)).trans w8, ht8, rfl⟩
    rintro σ' H8 ⟨l', d, rs', ys, hl8, hd8, hT, hLn', ha8, w8, ht8, rfl⟩
    refine ⟨fun σ' H' => Same H8 H' ∧ σ' = [some (.ref s), some (.ref t), some (.str sg), some (.int (n : Int)), some (.ref a), some (.str (jn rs)), some (.str (jn rs)), some (.ref l'), some (.ref d), none], ?_, ?_⟩
    · refine ⟨rfl, _, rfl, _, l', rs', rfl, rfl, .inl (SqL.of hl8), (by show 1 ≤ 1; decide), fun z hz => Nat.le_trans (hLn'.sm.row z hz) (by decide), Nat.le_trans hLn'.sm.len (by decide), ?_⟩
      refine ⟨rs', false, rfl, hLn', .inl ⟨ys, hT, fun q H9 s9 hq => ?_⟩⟩
      exact ⟨_, rfl, .ref q, .ref d, rfl, EqD.tell hT hq (SqT.of (s9 _ _ hd8)), fun H10 s10 => ⟨_, rfl, iteNT ⟨s9.trans s10, rfl⟩⟩⟩
    rintro σ' H9 ⟨s9, rfl⟩
    -- back
    refine ⟨fun σ' H' => Same H9 H' ∧ ∃ q b, SqT K H' q [.str (Str.ofString "read"), .ref b] ∧ Blk K p.C_Block H' b rs ∧ σ' = [some (.ref s), some (.ref t), some (.str sg), some (.int (n : Int)), some (.ref a), some (.str (jn rs)), some (.str (jn rs)), some (.ref l'), some (.ref d), some (.ref q)], ?_, ?_⟩
    · exact ⟨_, rfl, rs, false, rfl, hLn, .inr (.inr ⟨rfl, hgd, hco, fun q b H10 s10 hq hB => ⟨s10, q, b, hq, hB, rfl⟩⟩)⟩
    rintro σ' H10 ⟨s10, q, b, hq, ⟨dx, rq, hb, hrq⟩, rfl⟩
    have ha10 := (s9.trans s10) _ _ ha8
    refine ⟨fun σ' H' => Same H10 H' ∧ σ' = [some (.ref s), some (.ref t), some (.str sg), some (.int (n : Int)), some (.ref a), some (.str (jn rs)), some (.str (jn rs)), some (.ref l'), some (.ref d), some (.ref q)], ?_, ?_⟩
    · refine ⟨_, rfl, q, _, _, _, rfl, rfl, hq, rfl, rfl, _, rfl, ?_⟩
      rw [decide_eq_true rfl]
      refine iteNT ⟨_, rfl, q, _, _, _, rfl, rfl, hq, rfl, b, _, dx, _, rfl, hb, T.ii_Block, _, rfl, iteNT ?_⟩
      refine ⟨_, rfl, q, _, _, _, rfl, rfl, hq, rfl, b, _, dx, _, _, rfl, hb, T.cl_Block, T.n_Block_rows, rows_at, _, rfl, a, _, rfl, .inl ⟨SqL.of ha10, fun q2 hq2 => ?_⟩⟩
      exact ⟨.ref rq, .ref q2, rfl, EqD.strD (Same.tup (Same.upd hq2) hrq) (SqT.of upd_same) (by omega), fun H12 s12 => ⟨_, rfl, iteNT ⟨(Same.upd hq2).trans s12, rfl⟩⟩⟩
    rintro σ' H11 ⟨s11, rfl⟩
    have sf := (s9.trans s10).trans s11
    have w11 := w8.trans (Wo.same sf)
    have C11 : Ctr K H11 s t ns (k4 + 1) := hC.off w11 (sf _ _ ht8) (by omega)
    exact ⟨_, rfl, _, rfl, _, rfl, s, t, ns, k4 + 1, sg, rfl, C11, by omega, hsg.1, h12, hsg.2.2.1, fun k' H' w12 ht12 c1 c2 => kk k' H' (w11.trans w12) ht12 (by omega) (by omega)⟩
end
section
variable {P : Program} {w : World} {K : PySem.W.Frag} {mg : Str → Option Value} {base : Heap}
theorem ok_law {f_law f_law_one : Addr} {fd_law fd_law_one : FuncData} {p : Pm} (T : Txt K mg p w) (D_law : Dn K mg "law" s_law ["_law_script"] f_law fd_law) (D_law_one : Dn K mg "_law_one" s_law_one ["_law_script", "_law_at"] f_law_one fd_law_one) (G_law_one : FnOk P w K mg base CX0 12 f_law_one fd_law_one ["_law_script", "_law_at"] (spOne67 K)) : FnOk P w K mg base CX0 13 f_law fd_law ["_law_script"] (spLaw K) := by
  refine D_law.fn.ok sc_law (fun vs H Q E h => ?_) (fun cdv A outer s H vs Q E hr h => ?_)
  · obtain ⟨a, ns, rfl, _⟩ := h
    rfl
  · obtain ⟨a, ns, rfl, hS, hlen, kk⟩ := h
    refine ⟨_, (pss_cons (ps_set (i := 1) sc_law.nd rfl (Or.inl rfl) (pe_lst (pa_cons pe_int pa_nil)))
      (pss_cons (ps_for PassesOwn.never rfl (pi_range1 rfl T.z_range (pa_cons (pe_op op_add pe_int (pe_callB (call_min2 rfl) rfl T.z_min bo_min (pa_cons pe_int (pa_cons (pe_op op_fdiv (pe_callB (call_len) rfl T.z_len bo_len (pa_cons (pv 0) pa_nil)) pe_int) pa_nil)))) pa_nil)) (pg_name (i := 2) sc_law.nd rfl (Or.inl rfl)) (pss_one (ps_if (pt_not (pt_val (pe_call G_law_one (hr.mono (by decide)) rfl D_law_one.m D_law_one.fn.kp D_law_one.b .nil pass0 (pa_cons (pv 0) (pa_cons (pv 1) pa_nil))))) (pss_one (ps_ret pe_bl)) pss_nil)))
      (pss_one (ps_ret pe_bl)))), ?_⟩
    refine ⟨by show 1 ≤ sizeLine; decide, fun t ht => ?_⟩
    have c1 : Ctr K (upd H t (.lst [.int 0])) a t ns 0 := by
      refine ⟨?_, hlen, upd_same, by decide⟩
      rw [Wo.set]
      exact Same.seq (fun b u e => Wo.in (ne_of_none e ht) e) hS
    generalize upd H t (.lst [.int 0]) = H1 at c1 ⊢
    obtain ⟨n, hn, hn2⟩ : ∃ n : Nat, 1 + (if (((ns.map V.int).length : Nat) : Int) / 16 < 2 then (((ns.map V.int).length : Nat) : Int) / 16 else 2) = (n : Int) ∧ n ≤ 3 := by
      rw [List.length_map]
      by_cases e : ((ns.length : Nat) : Int) / 16 < 2
      · rw [if_pos e]; exact ⟨(1 + ((ns.length : Nat) : Int) / 16).toNat, by omega, by omega⟩
      · rw [if_neg e]; exact ⟨3, by omega, by omega⟩
    refine ⟨_, rfl, _, _, rfl, .inl ⟨_, c1.scr, rfl⟩, _, _, rfl, rfl, ⟨by decide, by decide⟩, _, _, rfl, _, _, rfl, rfl, (n : Int), (by rw [← hn]), by omega, by omega, ?_⟩
    rw [show ((n : Nat) : Int).toNat = n by omega]
    refine for_range (lo := 0) (n := n) (fun i σ' H3 => ∃ (v2 : Option V) (k : Int), σ' = [some (.ref a), some (.ref t), v2] ∧ Ctr K H3 a t ns k ∧ k ≤ 2000 * (i : Int)) ⟨_, 0, rfl, c1, by omega⟩ ?_ ?_
    · rintro i σ' H3 hi ⟨v2, k, rfl, c3, hk⟩
      have k0 := c3.k0
      exact ⟨_, rfl, _, rfl, a, t, ns, k, rfl, c3, by omega, fun k' H4 w4 ht4 b1 b2 => ⟨_, rfl, iteNT ⟨_, k', rfl, c3.off w4 ht4 (by omega), by omega⟩⟩⟩
    · rintro σ' H3 ⟨v2, k, rfl, c3, hk⟩
      exact kk H3
end
theorem law_ok {P : Program} {w : World} {K : PySem.W.Frag} {mg : Str → Option Value} {base : Heap} {p : Pm} {f_NoText___init__ f_is_sign f_are_signs f_check_place f_place_behind f_places_of f_may_end f_things_at f_turned f_columns_of f_laid_columns f_is_gaps f_signs_of f_check_lengths f_are_things f_check_things f_check_columns f_Block___init__ f_check_row f_bare f_written_block f_written_laying f_read_block f_check_two_rows f_move_of f_read_laying f_law_next f_law_signs f_law_same f_law_columns f_law_told f_law_spoilt f_law_laying f_law_one f_law : Addr} {fd_NoText___init__ fd_is_sign fd_are_signs fd_check_place fd_place_behind fd_places_of fd_may_end fd_things_at fd_turned fd_columns_of fd_laid_columns fd_is_gaps fd_signs_of fd_check_lengths fd_are_things fd_check_things fd_check_columns fd_Block___init__ fd_check_row fd_bare fd_written_block fd_written_laying fd_read_block fd_check_two_rows fd_move_of fd_read_laying fd_law_next fd_law_signs fd_law_same fd_law_columns fd_law_told fd_law_spoilt fd_law_laying fd_law_one fd_law : FuncData} (T : Txt K mg p w)
    (D_NoText___init__ : Dm K "__init__" "NoText.__init__" s_NoText___init__ ["self", "line"] f_NoText___init__ fd_NoText___init__)
    (D_is_sign : Dn K mg "is_sign" s_is_sign ["sign"] f_is_sign fd_is_sign)
    (D_are_signs : Dn K mg "are_signs" s_are_signs ["text"] f_are_signs fd_are_signs)
    (D_check_place : Dn K mg "check_place" s_check_place ["first", "second", "place"] f_check_place fd_check_place)
    (D_place_behind : Dn K mg "place_behind" s_place_behind ["place", "move"] f_place_behind fd_place_behind)
    (D_places_of : Dn K mg "places_of" s_places_of ["first", "second", "begin", "moves"] f_places_of fd_places_of)
    (D_may_end : Dn K mg "may_end" s_may_end ["manner", "first", "second", "place"] f_may_end fd_may_end)
    (D_things_at : Dn K mg "things_at" s_things_at ["texts", "place"] f_things_at fd_things_at)
    (D_turned : Dn K mg "turned" s_turned ["texts", "many"] f_turned fd_turned)
    (D_columns_of : Dn K mg "columns_of" s_columns_of ["rows"] f_columns_of fd_columns_of)
    (D_laid_columns : Dn K mg "laid_columns" s_laid_columns ["ones", "others", "one_gaps", "other_gaps", "moves"] f_laid_columns fd_laid_columns)
    (D_is_gaps : Dn K mg "is_gaps" s_is_gaps ["column"] f_is_gaps fd_is_gaps)
    (D_signs_of : Dn K mg "signs_of" s_signs_of ["things"] f_signs_of fd_signs_of)
    (D_check_lengths : Dn K mg "check_lengths" s_check_lengths ["rows"] f_check_lengths fd_check_lengths)
    (D_are_things : Dn K mg "are_things" s_are_things ["row"] f_are_things fd_are_things)
    (D_check_things : Dn K mg "check_things" s_check_things ["rows"] f_check_things fd_check_things)
    (D_check_columns : Dn K mg "check_columns" s_check_columns ["rows"] f_check_columns fd_check_columns)
    (D_Block___init__ : Dm K "__init__" "Block.__init__" s_Block___init__ ["self", "rows"] f_Block___init__ fd_Block___init__)
    (D_check_row : Dn K mg "check_row" s_check_row ["block", "row"] f_check_row fd_check_row)
    (D_bare : Dn K mg "bare" s_bare ["block", "row"] f_bare fd_bare)
    (D_written_block : Dn K mg "written_block" s_written_block ["block"] f_written_block fd_written_block)
    (D_written_laying : Dn K mg "written_laying" s_written_laying ["first", "second", "moves"] f_written_laying fd_written_laying)
    (D_read_block : Dn K mg "read_block" s_read_block ["text"] f_read_block fd_read_block)
    (D_check_two_rows : Dn K mg "check_two_rows" s_check_two_rows ["text"] f_check_two_rows fd_check_two_rows)
    (D_move_of : Dn K mg "move_of" s_move_of ["column"] f_move_of fd_move_of)
    (D_read_laying : Dn K mg "read_laying" s_read_laying ["text"] f_read_laying fd_read_laying)
    (D_law_next : Dn K mg "_law_next" s_law_next ["_law_script", "_law_at"] f_law_next fd_law_next)
    (D_law_signs : Dn K mg "_law_signs" s_law_signs ["_law_script", "_law_at", "_law_many"] f_law_signs fd_law_signs)
    (D_law_same : Dn K mg "_law_same" s_law_same ["_law_found", "_law_due"] f_law_same fd_law_same)
    (D_law_columns : Dn K mg "_law_columns" s_law_columns ["_law_script", "_law_at", "_law_signs_here", "_law_high", "_law_wide"] f_law_columns fd_law_columns)
    (D_law_told : Dn K mg "_law_told" s_law_told ["_law_text", "_law_laying_here"] f_law_told fd_law_told)
    (D_law_spoilt : Dn K mg "_law_spoilt" s_law_spoilt ["_law_script", "_law_at", "_law_rows"] f_law_spoilt fd_law_spoilt)
    (D_law_laying : Dn K mg "_law_laying" s_law_laying ["_law_script", "_law_at", "_law_signs_here"] f_law_laying fd_law_laying)
    (D_law_one : Dn K mg "_law_one" s_law_one ["_law_script", "_law_at"] f_law_one fd_law_one)
    (D_law : Dn K mg "law" s_law ["_law_script"] f_law fd_law)
    (M_NoText : XMk K p.C_NoText f_NoText___init__)
    (M_Block : Mk K p.C_Block f_Block___init__)
    : FnOk P w K mg base CX0 13 f_law fd_law ["_law_script"] (spLaw K) := by
  have R_is_sign : FnOk P w K mg base CX0 1 f_is_sign fd_is_sign ["sign"] spIsSign := ok_is_sign T D_is_sign
  have R_are_signs : FnOk P w K mg base CX0 2 f_are_signs fd_are_signs ["text"] spAreSigns := ok_are_signs T D_are_signs D_is_sign R_is_sign
  have R_law_next : FnOk P w K mg base CX0 1 f_law_next fd_law_next ["_law_script", "_law_at"] (spNext K) := ok_law_next T D_law_next
  have R_law_signs : FnOk P w K mg base CX0 2 f_law_signs fd_law_signs ["_law_script", "_law_at", "_law_many"] (spSigns K) := ok_law_signs T D_law_signs D_law_next R_law_next
  have R_check_place : FnOk P w K mg base CX0 1 f_check_place fd_check_place ["first", "second", "place"] (spCheckPlace K) := ok_check_place T D_check_place
  have R_place_behind : FnOk P w K mg base CX0 1 f_place_behind fd_place_behind ["place", "move"] (spBehind K) := ok_place_behind T D_place_behind
  have R_places_of : FnOk P w K mg base CX0 2 f_places_of fd_places_of ["first", "second", "begin", "moves"] (spPlaces K) := ok_places_of T D_places_of D_check_place R_check_place D_place_behind R_place_behind
  have R_may_end : FnOk P w K mg base CX0 1 f_may_end fd_may_end ["manner", "first", "second", "place"] (spMayE K) := ok_may_end T D_may_end
  have R_things_at : FnOk P w K mg base CX0 1 f_things_at fd_things_at ["texts", "place"] (spThingsAt K) := ok_things_at T D_things_at
  have R_turned : FnOk P w K mg base CX0 2 f_turned fd_turned ["texts", "many"] (spTurned K) := ok_turned T D_turned D_things_at R_things_at
  have R_columns_of : FnOk P w K mg base CX0 3 f_columns_of fd_columns_of ["rows"] (spColumns K) := ok_columns_of T D_columns_of D_turned R_turned
  have R_is_gaps : FnOk P w K mg base CX0 1 f_is_gaps fd_is_gaps ["column"] spIsGaps := ok_is_gaps T D_is_gaps
  have R_signs_of : FnOk P w K mg base CX0 1 f_signs_of fd_signs_of ["things"] spSignsOf := ok_signs_of T D_signs_of
  have R_are_things : FnOk P w K mg base CX0 3 f_are_things fd_are_things ["row"] spAreThings := ok_are_things T D_are_things D_signs_of R_signs_of D_are_signs R_are_signs
  have R_check_lengths : FnOk P w K mg base (CXs P w) 1 f_check_lengths fd_check_lengths ["rows"] (spChk K p.C_NoBlock (fun _ => true) lenB) := ok_check_lengths T D_check_lengths
  have R_check_things : FnOk P w K mg base (CXs P w) 4 f_check_things fd_check_things ["rows"] (spChk K p.C_NoBlock (fun _ => true) (fun rs => rs.all thingsB)) := ok_check_things T D_check_things D_are_things R_are_things
  have R_check_columns : FnOk P w K mg base (CXs P w) 4 f_check_columns fd_check_columns ["rows"] (spChk K p.C_NoBlock lenB colsB) := ok_check_columns T D_check_columns D_columns_of R_columns_of D_is_gaps R_is_gaps
  have R_Block___init__ : FnOk P w K mg base (CXs P w) 5 f_Block___init__ fd_Block___init__ ["self", "rows"] (spBlock K p.C_Block p.C_NoBlock) := ok_Block___init__ T D_Block___init__ D_check_lengths R_check_lengths D_check_things R_check_things D_check_columns R_check_columns
  have R_check_row : FnOk P w K mg base (CXs P w) 1 f_check_row fd_check_row ["block", "row"] (spRowB K p.C_Block p.C_NoRow) := ok_check_row T D_check_row
  have R_bare : FnOk P w K mg base (CXs P w) 2 f_bare fd_bare ["block", "row"] (spBare K p.C_Block p.C_NoRow) := ok_bare T D_bare D_check_row R_check_row D_signs_of R_signs_of
  have R_NoText___init__ : FnOk P w K mg base (CXs P w) 1 f_NoText___init__ fd_NoText___init__ ["self", "line"] (spNoText p.C_NoText) := ok_NoText___init__ T D_NoText___init__
  have R_written_block : FnOk P w K mg base CX0 1 f_written_block fd_written_block ["block"] (spWrB K p.C_Block) := ok_written_block T D_written_block
  have R_read_block : FnOk P w K mg base (CXs P w) 7 f_read_block fd_read_block ["text"] (spReadB K p.C_Block p.C_NoBlock p.C_NoText) := ok_read_block T D_read_block D_are_things R_are_things D_NoText___init__ M_NoText R_NoText___init__ D_Block___init__ M_Block R_Block___init__
  have R_check_two_rows : FnOk P w K mg base (CXs P w) 3 f_check_two_rows fd_check_two_rows ["text"] (spTwoRows p.C_NoText) := ok_check_two_rows T D_check_two_rows D_NoText___init__ M_NoText R_NoText___init__
  have R_move_of : FnOk P w K mg base CX0 1 f_move_of fd_move_of ["column"] spMoveOf := ok_move_of T D_move_of
  have R_laid_columns : FnOk P w K mg base CX0 2 f_laid_columns fd_laid_columns ["ones", "others", "one_gaps", "other_gaps", "moves"] (spLaidC K) := ok_laid_columns T D_laid_columns D_place_behind R_place_behind
  have R_written_laying : FnOk P w K mg base CX0 7 f_written_laying fd_written_laying ["first", "second", "moves"] (spWrL K) := ok_written_laying T D_written_laying D_places_of R_places_of D_may_end R_may_end D_laid_columns R_laid_columns D_turned R_turned D_Block___init__ M_Block (FnOk.nv R_Block___init__) D_written_block R_written_block
  have R_read_laying : FnOk P w K mg base (CXs P w) 8 f_read_laying fd_read_laying ["text"] (spReadL K p.C_NoBlock p.C_NoText) := ok_read_laying T D_read_laying D_check_two_rows R_check_two_rows D_read_block R_read_block D_columns_of R_columns_of D_move_of R_move_of D_bare R_bare
  have R_law_same_0 : FnOk P w K mg base CX0 1 f_law_same fd_law_same ["_law_found", "_law_due"] (spSameE K 0) := ok_law_same_0 T D_law_same
  have R_law_same_1 : FnOk P w K mg base CX0 2 f_law_same fd_law_same ["_law_found", "_law_due"] (spSameE K 1) := ok_law_same_1 T D_law_same R_law_same_0
  have R_law_same_2 : FnOk P w K mg base CX0 3 f_law_same fd_law_same ["_law_found", "_law_due"] (spSameE K 2) := ok_law_same_2 T D_law_same R_law_same_1
  have R_law_told : FnOk P w K mg base CX0 10 f_law_told fd_law_told ["_law_text", "_law_laying_here"] (spTold67 K p.C_Block) := ok_law_told T D_law_told D_read_laying R_read_laying D_read_block R_read_block
  have R_law_columns : FnOk P w K mg base CX0 2 f_law_columns fd_law_columns ["_law_script", "_law_at", "_law_signs_here", "_law_high", "_law_wide"] (spColsW K) := ok_law_columns T D_law_columns D_law_next R_law_next
  have R_law_spoilt : FnOk P w K mg base CX0 2 f_law_spoilt fd_law_spoilt ["_law_script", "_law_at", "_law_rows"] (spSpoilt67 K) := ok_law_spoilt T D_law_spoilt D_law_next R_law_next
  have R_law_laying : FnOk P w K mg base CX0 11 f_law_laying fd_law_laying ["_law_script", "_law_at", "_law_signs_here"] (spLayW K) := ok_law_laying T D_law_laying D_law_next R_law_next D_written_laying R_written_laying D_law_told R_law_told D_law_same R_law_same_2 D_law_spoilt R_law_spoilt
  have R_law_one : FnOk P w K mg base CX0 12 f_law_one fd_law_one ["_law_script", "_law_at"] (spOne67 K) := ok_law_one T D_law_one D_law_next R_law_next D_law_signs R_law_signs D_law_columns R_law_columns D_written_block R_written_block D_Block___init__ M_Block (FnOk.nv R_Block___init__) D_law_told R_law_told D_law_same R_law_same_2 D_law_spoilt R_law_spoilt D_law_laying R_law_laying
  have R_law : FnOk P w K mg base CX0 13 f_law fd_law ["_law_script"] (spLaw K) := ok_law T D_law D_law_one R_law_one
  exact R_law
theorem all_mk {l : PySem.W.OpenLaw} {w : World} {K : PySem.W.Frag} {h : Heap} {mg : Str → Option Value} {fa : Addr} (X : K.In h) (G : h.Ns mainGlobals mg) (hfa : mg "law" = some (.ref fa))
    {t_FIRST_SIGN : Tok}
    {t_LAST_SIGN : Tok}
    {a_NO_SIGNS : Addr} {od_NO_SIGNS : Option Addr} {n_NO_SIGNS : Nat} {sl_NO_SIGNS : Array (Option Value)} {t_NO_SIGNS0 t_NO_SIGNS1 t_NO_SIGNS2 : Tok}
    {a_STEPS : Addr} {ep_STEPS : Nat} {v_STEPS0 v_STEPS1 v_STEPS2 : Addr} {t_STEPS0 t_STEPS1 t_STEPS2 : Tok}
    {od_STEPS0 : Option Addr} {n_STEPS0 : Nat} {sl_STEPS0 : Array (Option Value)} {u_STEPS0_0 u_STEPS0_1 : Tok}
    {od_STEPS1 : Option Addr} {n_STEPS1 : Nat} {sl_STEPS1 : Array (Option Value)} {u_STEPS1_0 u_STEPS1_1 : Tok}
    {od_STEPS2 : Option Addr} {n_STEPS2 : Nat} {sl_STEPS2 : Array (Option Value)} {u_STEPS2_0 u_STEPS2_1 : Tok}
    {t_GAP : Tok}
    {t_LINE_END : Tok}
    {C_Block : Addr}
    {C_WeaveError : Addr}
    {C_NoBlock : Addr}
    {C_NoText : Addr}
    {C_NoRow : Addr}
    {C_NoPrices : Addr}
    {C_NoSign : Addr}
    {C_NoNote : Addr}
    (g_FIRST_SIGN : PySem.W.nsIn K mainGlobals "FIRST_SIGN" = some (some (.int 32 t_FIRST_SIGN)))
    (g_LAST_SIGN : PySem.W.nsIn K mainGlobals "LAST_SIGN" = some (some (.int 126 t_LAST_SIGN)))
    (g_NO_SIGNS : PySem.W.nsIn K mainGlobals "NO_SIGNS" = some (some (.ref a_NO_SIGNS)))
    (l_NO_SIGNS : K.lookup a_NO_SIGNS = some ⟨.type "tuple", od_NO_SIGNS, .seq #[.int 34 t_NO_SIGNS0, .int 37 t_NO_SIGNS1, .int 45 t_NO_SIGNS2] n_NO_SIGNS, sl_NO_SIGNS⟩)
    (g_STEPS : PySem.W.nsIn K mainGlobals "STEPS" = some (some (.ref a_STEPS)))
    (l_STEPS : K.lookup a_STEPS = some { cls := .type "dict", data := .dict #[⟨PySem.PyData.keyHash w.params (Str.ofString "p"), .str (Str.ofString "p") t_STEPS0, .ref v_STEPS0⟩, ⟨PySem.PyData.keyHash w.params (Str.ofString "a"), .str (Str.ofString "a") t_STEPS1, .ref v_STEPS1⟩, ⟨PySem.PyData.keyHash w.params (Str.ofString "b"), .str (Str.ofString "b") t_STEPS2, .ref v_STEPS2⟩] ep_STEPS })
    (s_STEPS : (a_STEPS == sysModules) = false)
    (l_STEPS0 : K.lookup v_STEPS0 = some ⟨.type "tuple", od_STEPS0, .seq #[.int 1 u_STEPS0_0, .int 1 u_STEPS0_1] n_STEPS0, sl_STEPS0⟩)
    (l_STEPS1 : K.lookup v_STEPS1 = some ⟨.type "tuple", od_STEPS1, .seq #[.int 1 u_STEPS1_0, .int 0 u_STEPS1_1] n_STEPS1, sl_STEPS1⟩)
    (l_STEPS2 : K.lookup v_STEPS2 = some ⟨.type "tuple", od_STEPS2, .seq #[.int 0 u_STEPS2_0, .int 1 u_STEPS2_1] n_STEPS2, sl_STEPS2⟩)
    (g_GAP : PySem.W.nsIn K mainGlobals "GAP" = some (some (.str (Str.ofString "-") t_GAP)))
    (g_LINE_END : PySem.W.nsIn K mainGlobals "LINE_END" = some (some (.str (Str.ofString "\n") t_LINE_END)))
    (aC_Block : PySem.W.nsIn K mainGlobals "Block" = some (some (.ref C_Block)))
    (pg_Block : PySem.W.plainGet K C_Block Str.empty = true) (hd_Block : PySem.W.hasDictIn K C_Block = true) (po_Block : PySem.W.plainOver K C_Block = true) (sa_Block : PySem.W.findIn K (.ref C_Block) "__setattr__" = some (some (.builtin "object.__setattr__"))) (mk_Block : PySem.W.makesIn K C_Block = true) (kc_Block : PySem.W.keepIn K (.ref C_Block) = true)
    (nA_Block_rows : PySem.W.findIn K (.ref C_Block) "rows" = some none)
    (ii_Block : PySem.W.isIn K (.ref C_Block) C_Block = true)
    (aC_WeaveError : PySem.W.nsIn K mainGlobals "WeaveError" = some (some (.ref C_WeaveError)))
    (b1_WeaveError : PySem.W.hasDictIn K C_WeaveError = true) (b2_WeaveError : PySem.W.typeIn K (.ref C_WeaveError) = some (.type "type")) (b3_WeaveError : PySem.W.mroIn K C_WeaveError (.type "BaseException") = some true)
    (aC_NoBlock : PySem.W.nsIn K mainGlobals "NoBlock" = some (some (.ref C_NoBlock)))
    (xi_NoBlock : PySem.W.excIn K C_NoBlock [.type "ValueError", .type "Exception", .type "BaseException", .type "object"] "ValueError.__new__" = true)
    (y0_NoBlock : PySem.W.findIn K (.ref C_NoBlock) "__getattribute__" = some (some (.builtin "BaseException.__getattribute__")))
    (y1_NoBlock : PySem.W.findIn K (.ref C_NoBlock) "__getattr__" = some none)
    (y2_NoBlock : PySem.W.hasDictIn K C_NoBlock = true)
    (y3_NoBlock : PySem.W.findIn K (.ref C_NoBlock) "__class__" = some (some (.builtin "object.__class__")))
    (y4_NoBlock : PySem.W.specialIn K (.builtin "object.__class__") "__get__" = some (some (.builtin "getset_descriptor.__get__")))
    (y5_NoBlock : PySem.W.takesIn K (.builtin "object.__class__") = some true)
    (y6_NoBlock : PySem.W.mroIn K C_NoBlock (.type "object") = some true)
    (y7_NoBlock : PySem.W.mroIn K C_NoBlock (.type "BaseException") = some true)
    (aC_NoText : PySem.W.nsIn K mainGlobals "NoText" = some (some (.ref C_NoText)))
    (y0_NoText : PySem.W.findIn K (.ref C_NoText) "__getattribute__" = some (some (.builtin "BaseException.__getattribute__")))
    (y1_NoText : PySem.W.findIn K (.ref C_NoText) "__getattr__" = some none)
    (y2_NoText : PySem.W.hasDictIn K C_NoText = true)
    (y3_NoText : PySem.W.findIn K (.ref C_NoText) "__class__" = some (some (.builtin "object.__class__")))
    (y4_NoText : PySem.W.specialIn K (.builtin "object.__class__") "__get__" = some (some (.builtin "getset_descriptor.__get__")))
    (y5_NoText : PySem.W.takesIn K (.builtin "object.__class__") = some true)
    (y6_NoText : PySem.W.mroIn K C_NoText (.type "object") = some true)
    (y7_NoText : PySem.W.mroIn K C_NoText (.type "BaseException") = some true)
    (aC_NoRow : PySem.W.nsIn K mainGlobals "NoRow" = some (some (.ref C_NoRow)))
    (xi_NoRow : PySem.W.excIn K C_NoRow [.type "ValueError", .type "Exception", .type "BaseException", .type "object"] "ValueError.__new__" = true)
    (aC_NoPrices : PySem.W.nsIn K mainGlobals "NoPrices" = some (some (.ref C_NoPrices)))
    (aC_NoSign : PySem.W.nsIn K mainGlobals "NoSign" = some (some (.ref C_NoSign)))
    (aC_NoNote : PySem.W.nsIn K mainGlobals "NoNote" = some (some (.ref C_NoNote)))
    (u1_NoText : PySem.W.hasDictIn K C_NoText = true) (u2_NoText : ((PySem.W.clsIn K C_NoText).any fun cd => tailVE cd.mro) = true) (u3_NoText : PySem.W.findIn K (.ref C_NoText) "__setattr__" = some (some (.builtin "object.__setattr__"))) (kc_NoText : PySem.W.keepIn K (.ref C_NoText) = true)
    (nA_NoText_line : PySem.W.findIn K (.ref C_NoText) "line" = some none)
    (w1_WeaveError : PySem.W.specialIn K (.ref C_WeaveError) "__getattribute__" = some (some (.builtin "type.__getattribute__"))) (w2_WeaveError : PySem.W.readsIn K C_WeaveError (.type "type") = true) (w3_WeaveError : PySem.W.findCls K (.ref C_WeaveError) (.type "type") "__init__" = some (.val (.builtin "ValueError.__init__")))
    (ks_NoBlock_WeaveError : PySem.W.subIn K (.ref C_NoBlock) (.ref C_WeaveError) = some true)
    (ks_NoText_WeaveError : PySem.W.subIn K (.ref C_NoText) (.ref C_WeaveError) = some true)
    (ki_NoBlock_NoPrices : PySem.W.kitOne K (.ref C_NoBlock) (.ref C_NoPrices) = some false)
    (ki_NoBlock_NoSign : PySem.W.kitOne K (.ref C_NoBlock) (.ref C_NoSign) = some false)
    (ki_NoBlock_NoNote : PySem.W.kitOne K (.ref C_NoBlock) (.ref C_NoNote) = some false)
    (ki_NoText_NoPrices : PySem.W.kitOne K (.ref C_NoText) (.ref C_NoPrices) = some false)
    (ki_NoText_NoSign : PySem.W.kitOne K (.ref C_NoText) (.ref C_NoSign) = some false)
    (ki_NoText_NoNote : PySem.W.kitOne K (.ref C_NoText) (.ref C_NoNote) = some false)
    (ki_NoBlock_NoBlock : PySem.W.kitOne K (.ref C_NoBlock) (.ref C_NoBlock) = some true)
    (ki_NoBlock_NoText : PySem.W.kitOne K (.ref C_NoBlock) (.ref C_NoText) = some false)
    (ki_NoText_NoText : PySem.W.kitOne K (.ref C_NoText) (.ref C_NoText) = some true)
    (ki_NoText_NoBlock : PySem.W.kitOne K (.ref C_NoText) (.ref C_NoBlock) = some false)
    (ki_NoBlock_ValueError : PySem.W.kitOne K (.ref C_NoBlock) (.type "ValueError") = some true)
    (ki_NoText_ValueError : PySem.W.kitOne K (.ref C_NoText) (.type "ValueError") = some true)
    {od0 an0 : Option Addr} {sl0 : Array (Option Value)} {oc0 kV0 dc0 pm0 cd0 ct0 : Value} {f_NoText___init__ : Addr}
    (a0 : PySem.W.findIn K (.ref C_NoText) "__init__" = some (some (.ref f_NoText___init__))) (i0 : PySem.W.isFn K (.ref f_NoText___init__) = true) (l0 : K.lookup f_NoText___init__ = some ⟨oc0, od0, .func (PySem.W.fnOf "__init__" "NoText.__init__" (defArgs s_NoText___init__) (defBody s_NoText___init__) (defScope s_NoText___init__) .none kV0 dc0 pm0 an0 cd0 ct0), sl0⟩) (c0 : PySem.W.codeIn K cd0 "NoText.__init__" = true) (k0 : PySem.W.keepIn K (.ref f_NoText___init__) = true)
    {od1 an1 : Option Addr} {sl1 : Array (Option Value)} {oc1 kV1 dc1 pm1 cd1 ct1 : Value} {f_is_sign : Addr}
    (a1 : PySem.W.nsIn K mainGlobals "is_sign" = some (some (.ref f_is_sign))) (l1 : K.lookup f_is_sign = some ⟨oc1, od1, .func (PySem.W.fnOf "is_sign" "is_sign" (defArgs s_is_sign) (defBody s_is_sign) (defScope s_is_sign) .none kV1 dc1 pm1 an1 cd1 ct1), sl1⟩) (c1 : PySem.W.codeIn K cd1 "is_sign" = true) (k1 : PySem.W.keepIn K (.ref f_is_sign) = true)
    {od2 an2 : Option Addr} {sl2 : Array (Option Value)} {oc2 kV2 dc2 pm2 cd2 ct2 : Value} {f_are_signs : Addr}
    (a2 : PySem.W.nsIn K mainGlobals "are_signs" = some (some (.ref f_are_signs))) (l2 : K.lookup f_are_signs = some ⟨oc2, od2, .func (PySem.W.fnOf "are_signs" "are_signs" (defArgs s_are_signs) (defBody s_are_signs) (defScope s_are_signs) .none kV2 dc2 pm2 an2 cd2 ct2), sl2⟩) (c2 : PySem.W.codeIn K cd2 "are_signs" = true) (k2 : PySem.W.keepIn K (.ref f_are_signs) = true)
    {od3 an3 : Option Addr} {sl3 : Array (Option Value)} {oc3 kV3 dc3 pm3 cd3 ct3 : Value} {f_check_place : Addr}
    (a3 : PySem.W.nsIn K mainGlobals "check_place" = some (some (.ref f_check_place))) (l3 : K.lookup f_check_place = some ⟨oc3, od3, .func (PySem.W.fnOf "check_place" "check_place" (defArgs s_check_place) (defBody s_check_place) (defScope s_check_place) .none kV3 dc3 pm3 an3 cd3 ct3), sl3⟩) (c3 : PySem.W.codeIn K cd3 "check_place" = true) (k3 : PySem.W.keepIn K (.ref f_check_place) = true)
    {od4 an4 : Option Addr} {sl4 : Array (Option Value)} {oc4 kV4 dc4 pm4 cd4 ct4 : Value} {f_place_behind : Addr}
    (a4 : PySem.W.nsIn K mainGlobals "place_behind" = some (some (.ref f_place_behind))) (l4 : K.lookup f_place_behind = some ⟨oc4, od4, .func (PySem.W.fnOf "place_behind" "place_behind" (defArgs s_place_behind) (defBody s_place_behind) (defScope s_place_behind) .none kV4 dc4 pm4 an4 cd4 ct4), sl4⟩) (c4 : PySem.W.codeIn K cd4 "place_behind" = true) (k4 : PySem.W.keepIn K (.ref f_place_behind) = true)
    {od5 an5 : Option Addr} {sl5 : Array (Option Value)} {oc5 kV5 dc5 pm5 cd5 ct5 : Value} {f_places_of : Addr}
    (a5 : PySem.W.nsIn K mainGlobals "places_of" = some (some (.ref f_places_of))) (l5 : K.lookup f_places_of = some ⟨oc5, od5, .func (PySem.W.fnOf "places_of" "places_of" (defArgs s_places_of) (defBody s_places_of) (defScope s_places_of) .none kV5 dc5 pm5 an5 cd5 ct5), sl5⟩) (c5 : PySem.W.codeIn K cd5 "places_of" = true) (k5 : PySem.W.keepIn K (.ref f_places_of) = true)
    {od6 an6 : Option Addr} {sl6 : Array (Option Value)} {oc6 kV6 dc6 pm6 cd6 ct6 : Value} {f_may_end : Addr}
    (a6 : PySem.W.nsIn K mainGlobals "may_end" = some (some (.ref f_may_end))) (l6 : K.lookup f_may_end = some ⟨oc6, od6, .func (PySem.W.fnOf "may_end" "may_end" (defArgs s_may_end) (defBody s_may_end) (defScope s_may_end) .none kV6 dc6 pm6 an6 cd6 ct6), sl6⟩) (c6 : PySem.W.codeIn K cd6 "may_end" = true) (k6 : PySem.W.keepIn K (.ref f_may_end) = true)
    {od7 an7 : Option Addr} {sl7 : Array (Option Value)} {oc7 kV7 dc7 pm7 cd7 ct7 : Value} {f_things_at : Addr}
    (a7 : PySem.W.nsIn K mainGlobals "things_at" = some (some (.ref f_things_at))) (l7 : K.lookup f_things_at = some ⟨oc7, od7, .func (PySem.W.fnOf "things_at" "things_at" (defArgs s_things_at) (defBody s_things_at) (defScope s_things_at) .none kV7 dc7 pm7 an7 cd7 ct7), sl7⟩) (c7 : PySem.W.codeIn K cd7 "things_at" = true) (k7 : PySem.W.keepIn K (.ref f_things_at) = true)
    {od8 an8 : Option Addr} {sl8 : Array (Option Value)} {oc8 kV8 dc8 pm8 cd8 ct8 : Value} {f_turned : Addr}
    (a8 : PySem.W.nsIn K mainGlobals "turned" = some (some (.ref f_turned))) (l8 : K.lookup f_turned = some ⟨oc8, od8, .func (PySem.W.fnOf "turned" "turned" (defArgs s_turned) (defBody s_turned) (defScope s_turned) .none kV8 dc8 pm8 an8 cd8 ct8), sl8⟩) (c8 : PySem.W.codeIn K cd8 "turned" = true) (k8 : PySem.W.keepIn K (.ref f_turned) = true)
    {od9 an9 : Option Addr} {sl9 : Array (Option Value)} {oc9 kV9 dc9 pm9 cd9 ct9 : Value} {f_columns_of : Addr}
    (a9 : PySem.W.nsIn K mainGlobals "columns_of" = some (some (.ref f_columns_of))) (l9 : K.lookup f_columns_of = some ⟨oc9, od9, .func (PySem.W.fnOf "columns_of" "columns_of" (defArgs s_columns_of) (defBody s_columns_of) (defScope s_columns_of) .none kV9 dc9 pm9 an9 cd9 ct9), sl9⟩) (c9 : PySem.W.codeIn K cd9 "columns_of" = true) (k9 : PySem.W.keepIn K (.ref f_columns_of) = true)
    {od10 an10 : Option Addr} {sl10 : Array (Option Value)} {oc10 kV10 dc10 pm10 cd10 ct10 : Value} {f_laid_columns : Addr}
    (a10 : PySem.W.nsIn K mainGlobals "laid_columns" = some (some (.ref f_laid_columns))) (l10 : K.lookup f_laid_columns = some ⟨oc10, od10, .func (PySem.W.fnOf "laid_columns" "laid_columns" (defArgs s_laid_columns) (defBody s_laid_columns) (defScope s_laid_columns) .none kV10 dc10 pm10 an10 cd10 ct10), sl10⟩) (c10 : PySem.W.codeIn K cd10 "laid_columns" = true) (k10 : PySem.W.keepIn K (.ref f_laid_columns) = true)
    {od11 an11 : Option Addr} {sl11 : Array (Option Value)} {oc11 kV11 dc11 pm11 cd11 ct11 : Value} {f_is_gaps : Addr}
    (a11 : PySem.W.nsIn K mainGlobals "is_gaps" = some (some (.ref f_is_gaps))) (l11 : K.lookup f_is_gaps = some ⟨oc11, od11, .func (PySem.W.fnOf "is_gaps" "is_gaps" (defArgs s_is_gaps) (defBody s_is_gaps) (defScope s_is_gaps) .none kV11 dc11 pm11 an11 cd11 ct11), sl11⟩) (c11 : PySem.W.codeIn K cd11 "is_gaps" = true) (k11 : PySem.W.keepIn K (.ref f_is_gaps) = true)
    {od12 an12 : Option Addr} {sl12 : Array (Option Value)} {oc12 kV12 dc12 pm12 cd12 ct12 : Value} {f_signs_of : Addr}
    (a12 : PySem.W.nsIn K mainGlobals "signs_of" = some (some (.ref f_signs_of))) (l12 : K.lookup f_signs_of = some ⟨oc12, od12, .func (PySem.W.fnOf "signs_of" "signs_of" (defArgs s_signs_of) (defBody s_signs_of) (defScope s_signs_of) .none kV12 dc12 pm12 an12 cd12 ct12), sl12⟩) (c12 : PySem.W.codeIn K cd12 "signs_of" = true) (k12 : PySem.W.keepIn K (.ref f_signs_of) = true)
    {od13 an13 : Option Addr} {sl13 : Array (Option Value)} {oc13 kV13 dc13 pm13 cd13 ct13 : Value} {f_check_lengths : Addr}
    (a13 : PySem.W.nsIn K mainGlobals "check_lengths" = some (some (.ref f_check_lengths))) (l13 : K.lookup f_check_lengths = some ⟨oc13, od13, .func (PySem.W.fnOf "check_lengths" "check_lengths" (defArgs s_check_lengths) (defBody s_check_lengths) (defScope s_check_lengths) .none kV13 dc13 pm13 an13 cd13 ct13), sl13⟩) (c13 : PySem.W.codeIn K cd13 "check_lengths" = true) (k13 : PySem.W.keepIn K (.ref f_check_lengths) = true)
    {od14 an14 : Option Addr} {sl14 : Array (Option Value)} {oc14 kV14 dc14 pm14 cd14 ct14 : Value} {f_are_things : Addr}
    (a14 : PySem.W.nsIn K mainGlobals "are_things" = some (some (.ref f_are_things))) (l14 : K.lookup f_are_things = some ⟨oc14, od14, .func (PySem.W.fnOf "are_things" "are_things" (defArgs s_are_things) (defBody s_are_things) (defScope s_are_things) .none kV14 dc14 pm14 an14 cd14 ct14), sl14⟩) (c14 : PySem.W.codeIn K cd14 "are_things" = true) (k14 : PySem.W.keepIn K (.ref f_are_things) = true)
    {od15 an15 : Option Addr} {sl15 : Array (Option Value)} {oc15 kV15 dc15 pm15 cd15 ct15 : Value} {f_check_things : Addr}
    (a15 : PySem.W.nsIn K mainGlobals "check_things" = some (some (.ref f_check_things))) (l15 : K.lookup f_check_things = some ⟨oc15, od15, .func (PySem.W.fnOf "check_things" "check_things" (defArgs s_check_things) (defBody s_check_things) (defScope s_check_things) .none kV15 dc15 pm15 an15 cd15 ct15), sl15⟩) (c15 : PySem.W.codeIn K cd15 "check_things" = true) (k15 : PySem.W.keepIn K (.ref f_check_things) = true)
    {od16 an16 : Option Addr} {sl16 : Array (Option Value)} {oc16 kV16 dc16 pm16 cd16 ct16 : Value} {f_check_columns : Addr}
    (a16 : PySem.W.nsIn K mainGlobals "check_columns" = some (some (.ref f_check_columns))) (l16 : K.lookup f_check_columns = some ⟨oc16, od16, .func (PySem.W.fnOf "check_columns" "check_columns" (defArgs s_check_columns) (defBody s_check_columns) (defScope s_check_columns) .none kV16 dc16 pm16 an16 cd16 ct16), sl16⟩) (c16 : PySem.W.codeIn K cd16 "check_columns" = true) (k16 : PySem.W.keepIn K (.ref f_check_columns) = true)
    {od17 an17 : Option Addr} {sl17 : Array (Option Value)} {oc17 kV17 dc17 pm17 cd17 ct17 : Value} {f_Block___init__ : Addr}
    (a17 : PySem.W.findIn K (.ref C_Block) "__init__" = some (some (.ref f_Block___init__))) (i17 : PySem.W.isFn K (.ref f_Block___init__) = true) (l17 : K.lookup f_Block___init__ = some ⟨oc17, od17, .func (PySem.W.fnOf "__init__" "Block.__init__" (defArgs s_Block___init__) (defBody s_Block___init__) (defScope s_Block___init__) .none kV17 dc17 pm17 an17 cd17 ct17), sl17⟩) (c17 : PySem.W.codeIn K cd17 "Block.__init__" = true) (k17 : PySem.W.keepIn K (.ref f_Block___init__) = true)
    {od18 an18 : Option Addr} {sl18 : Array (Option Value)} {oc18 kV18 dc18 pm18 cd18 ct18 : Value} {f_check_row : Addr}
    (a18 : PySem.W.nsIn K mainGlobals "check_row" = some (some (.ref f_check_row))) (l18 : K.lookup f_check_row = some ⟨oc18, od18, .func (PySem.W.fnOf "check_row" "check_row" (defArgs s_check_row) (defBody s_check_row) (defScope s_check_row) .none kV18 dc18 pm18 an18 cd18 ct18), sl18⟩) (c18 : PySem.W.codeIn K cd18 "check_row" = true) (k18 : PySem.W.keepIn K (.ref f_check_row) = true)
    {od19 an19 : Option Addr} {sl19 : Array (Option Value)} {oc19 kV19 dc19 pm19 cd19 ct19 : Value} {f_bare : Addr}
    (a19 : PySem.W.nsIn K mainGlobals "bare" = some (some (.ref f_bare))) (l19 : K.lookup f_bare = some ⟨oc19, od19, .func (PySem.W.fnOf "bare" "bare" (defArgs s_bare) (defBody s_bare) (defScope s_bare) .none kV19 dc19 pm19 an19 cd19 ct19), sl19⟩) (c19 : PySem.W.codeIn K cd19 "bare" = true) (k19 : PySem.W.keepIn K (.ref f_bare) = true)
    {od20 an20 : Option Addr} {sl20 : Array (Option Value)} {oc20 kV20 dc20 pm20 cd20 ct20 : Value} {f_written_block : Addr}
    (a20 : PySem.W.nsIn K mainGlobals "written_block" = some (some (.ref f_written_block))) (l20 : K.lookup f_written_block = some ⟨oc20, od20, .func (PySem.W.fnOf "written_block" "written_block" (defArgs s_written_block) (defBody s_written_block) (defScope s_written_block) .none kV20 dc20 pm20 an20 cd20 ct20), sl20⟩) (c20 : PySem.W.codeIn K cd20 "written_block" = true) (k20 : PySem.W.keepIn K (.ref f_written_block) = true)
    {od21 an21 : Option Addr} {sl21 : Array (Option Value)} {oc21 kV21 dc21 pm21 cd21 ct21 : Value} {f_written_laying : Addr}
    (a21 : PySem.W.nsIn K mainGlobals "written_laying" = some (some (.ref f_written_laying))) (l21 : K.lookup f_written_laying = some ⟨oc21, od21, .func (PySem.W.fnOf "written_laying" "written_laying" (defArgs s_written_laying) (defBody s_written_laying) (defScope s_written_laying) .none kV21 dc21 pm21 an21 cd21 ct21), sl21⟩) (c21 : PySem.W.codeIn K cd21 "written_laying" = true) (k21 : PySem.W.keepIn K (.ref f_written_laying) = true)
    {od22 an22 : Option Addr} {sl22 : Array (Option Value)} {oc22 kV22 dc22 pm22 cd22 ct22 : Value} {f_read_block : Addr}
    (a22 : PySem.W.nsIn K mainGlobals "read_block" = some (some (.ref f_read_block))) (l22 : K.lookup f_read_block = some ⟨oc22, od22, .func (PySem.W.fnOf "read_block" "read_block" (defArgs s_read_block) (defBody s_read_block) (defScope s_read_block) .none kV22 dc22 pm22 an22 cd22 ct22), sl22⟩) (c22 : PySem.W.codeIn K cd22 "read_block" = true) (k22 : PySem.W.keepIn K (.ref f_read_block) = true)
    {od23 an23 : Option Addr} {sl23 : Array (Option Value)} {oc23 kV23 dc23 pm23 cd23 ct23 : Value} {f_check_two_rows : Addr}
    (a23 : PySem.W.nsIn K mainGlobals "check_two_rows" = some (some (.ref f_check_two_rows))) (l23 : K.lookup f_check_two_rows = some ⟨oc23, od23, .func (PySem.W.fnOf "check_two_rows" "check_two_rows" (defArgs s_check_two_rows) (defBody s_check_two_rows) (defScope s_check_two_rows) .none kV23 dc23 pm23 an23 cd23 ct23), sl23⟩) (c23 : PySem.W.codeIn K cd23 "check_two_rows" = true) (k23 : PySem.W.keepIn K (.ref f_check_two_rows) = true)
    {od24 an24 : Option Addr} {sl24 : Array (Option Value)} {oc24 kV24 dc24 pm24 cd24 ct24 : Value} {f_move_of : Addr}
    (a24 : PySem.W.nsIn K mainGlobals "move_of" = some (some (.ref f_move_of))) (l24 : K.lookup f_move_of = some ⟨oc24, od24, .func (PySem.W.fnOf "move_of" "move_of" (defArgs s_move_of) (defBody s_move_of) (defScope s_move_of) .none kV24 dc24 pm24 an24 cd24 ct24), sl24⟩) (c24 : PySem.W.codeIn K cd24 "move_of" = true) (k24 : PySem.W.keepIn K (.ref f_move_of) = true)
    {od25 an25 : Option Addr} {sl25 : Array (Option Value)} {oc25 kV25 dc25 pm25 cd25 ct25 : Value} {f_read_laying : Addr}
    (a25 : PySem.W.nsIn K mainGlobals "read_laying" = some (some (.ref f_read_laying))) (l25 : K.lookup f_read_laying = some ⟨oc25, od25, .func (PySem.W.fnOf "read_laying" "read_laying" (defArgs s_read_laying) (defBody s_read_laying) (defScope s_read_laying) .none kV25 dc25 pm25 an25 cd25 ct25), sl25⟩) (c25 : PySem.W.codeIn K cd25 "read_laying" = true) (k25 : PySem.W.keepIn K (.ref f_read_laying) = true)
    {od26 an26 : Option Addr} {sl26 : Array (Option Value)} {oc26 kV26 dc26 pm26 cd26 ct26 : Value} {f_law_next : Addr}
    (a26 : PySem.W.nsIn K mainGlobals "_law_next" = some (some (.ref f_law_next))) (l26 : K.lookup f_law_next = some ⟨oc26, od26, .func (PySem.W.fnOf "_law_next" "_law_next" (defArgs s_law_next) (defBody s_law_next) (defScope s_law_next) .none kV26 dc26 pm26 an26 cd26 ct26), sl26⟩) (c26 : PySem.W.codeIn K cd26 "_law_next" = true) (k26 : PySem.W.keepIn K (.ref f_law_next) = true)
    {od27 an27 : Option Addr} {sl27 : Array (Option Value)} {oc27 kV27 dc27 pm27 cd27 ct27 : Value} {f_law_signs : Addr}
    (a27 : PySem.W.nsIn K mainGlobals "_law_signs" = some (some (.ref f_law_signs))) (l27 : K.lookup f_law_signs = some ⟨oc27, od27, .func (PySem.W.fnOf "_law_signs" "_law_signs" (defArgs s_law_signs) (defBody s_law_signs) (defScope s_law_signs) .none kV27 dc27 pm27 an27 cd27 ct27), sl27⟩) (c27 : PySem.W.codeIn K cd27 "_law_signs" = true) (k27 : PySem.W.keepIn K (.ref f_law_signs) = true)
    {od28 an28 : Option Addr} {sl28 : Array (Option Value)} {oc28 kV28 dc28 pm28 cd28 ct28 : Value} {f_law_same : Addr}
    (a28 : PySem.W.nsIn K mainGlobals "_law_same" = some (some (.ref f_law_same))) (l28 : K.lookup f_law_same = some ⟨oc28, od28, .func (PySem.W.fnOf "_law_same" "_law_same" (defArgs s_law_same) (defBody s_law_same) (defScope s_law_same) .none kV28 dc28 pm28 an28 cd28 ct28), sl28⟩) (c28 : PySem.W.codeIn K cd28 "_law_same" = true) (k28 : PySem.W.keepIn K (.ref f_law_same) = true)
    {od29 an29 : Option Addr} {sl29 : Array (Option Value)} {oc29 kV29 dc29 pm29 cd29 ct29 : Value} {f_law_columns : Addr}
    (a29 : PySem.W.nsIn K mainGlobals "_law_columns" = some (some (.ref f_law_columns))) (l29 : K.lookup f_law_columns = some ⟨oc29, od29, .func (PySem.W.fnOf "_law_columns" "_law_columns" (defArgs s_law_columns) (defBody s_law_columns) (defScope s_law_columns) .none kV29 dc29 pm29 an29 cd29 ct29), sl29⟩) (c29 : PySem.W.codeIn K cd29 "_law_columns" = true) (k29 : PySem.W.keepIn K (.ref f_law_columns) = true)
    {od30 an30 : Option Addr} {sl30 : Array (Option Value)} {oc30 kV30 dc30 pm30 cd30 ct30 : Value} {f_law_told : Addr}
    (a30 : PySem.W.nsIn K mainGlobals "_law_told" = some (some (.ref f_law_told))) (l30 : K.lookup f_law_told = some ⟨oc30, od30, .func (PySem.W.fnOf "_law_told" "_law_told" (defArgs s_law_told) (defBody s_law_told) (defScope s_law_told) .none kV30 dc30 pm30 an30 cd30 ct30), sl30⟩) (c30 : PySem.W.codeIn K cd30 "_law_told" = true) (k30 : PySem.W.keepIn K (.ref f_law_told) = true)
    {od31 an31 : Option Addr} {sl31 : Array (Option Value)} {oc31 kV31 dc31 pm31 cd31 ct31 : Value} {f_law_spoilt : Addr}
    (a31 : PySem.W.nsIn K mainGlobals "_law_spoilt" = some (some (.ref f_law_spoilt))) (l31 : K.lookup f_law_spoilt = some ⟨oc31, od31, .func (PySem.W.fnOf "_law_spoilt" "_law_spoilt" (defArgs s_law_spoilt) (defBody s_law_spoilt) (defScope s_law_spoilt) .none kV31 dc31 pm31 an31 cd31 ct31), sl31⟩) (c31 : PySem.W.codeIn K cd31 "_law_spoilt" = true) (k31 : PySem.W.keepIn K (.ref f_law_spoilt) = true)
    {od32 an32 : Option Addr} {sl32 : Array (Option Value)} {oc32 kV32 dc32 pm32 cd32 ct32 : Value} {f_law_laying : Addr}
    (a32 : PySem.W.nsIn K mainGlobals "_law_laying" = some (some (.ref f_law_laying))) (l32 : K.lookup f_law_laying = some ⟨oc32, od32, .func (PySem.W.fnOf "_law_laying" "_law_laying" (defArgs s_law_laying) (defBody s_law_laying) (defScope s_law_laying) .none kV32 dc32 pm32 an32 cd32 ct32), sl32⟩) (c32 : PySem.W.codeIn K cd32 "_law_laying" = true) (k32 : PySem.W.keepIn K (.ref f_law_laying) = true)
    {od33 an33 : Option Addr} {sl33 : Array (Option Value)} {oc33 kV33 dc33 pm33 cd33 ct33 : Value} {f_law_one : Addr}
    (a33 : PySem.W.nsIn K mainGlobals "_law_one" = some (some (.ref f_law_one))) (l33 : K.lookup f_law_one = some ⟨oc33, od33, .func (PySem.W.fnOf "_law_one" "_law_one" (defArgs s_law_one) (defBody s_law_one) (defScope s_law_one) .none kV33 dc33 pm33 an33 cd33 ct33), sl33⟩) (c33 : PySem.W.codeIn K cd33 "_law_one" = true) (k33 : PySem.W.keepIn K (.ref f_law_one) = true)
    {od34 an34 : Option Addr} {sl34 : Array (Option Value)} {oc34 kV34 dc34 pm34 cd34 ct34 : Value} {f_law : Addr}
    (a34 : PySem.W.nsIn K mainGlobals "law" = some (some (.ref f_law))) (l34 : K.lookup f_law = some ⟨oc34, od34, .func (PySem.W.fnOf "law" "law" (defArgs s_law) (defBody s_law) (defScope s_law) .none kV34 dc34 pm34 an34 cd34 ct34), sl34⟩) (c34 : PySem.W.codeIn K cd34 "law" = true) (k34 : PySem.W.keepIn K (.ref f_law) = true)
    (xj_NoText : excInI K C_NoText f_NoText___init__ = true)
    (zlen : PySem.W.nsIn K mainGlobals "len" = some none)
    (zord : PySem.W.nsIn K mainGlobals "ord" = some none)
    (zall : PySem.W.nsIn K mainGlobals "all" = some none)
    (zany : PySem.W.nsIn K mainGlobals "any" = some none)
    (zisinstance : PySem.W.nsIn K mainGlobals "isinstance" = some none)
    (zstr : PySem.W.nsIn K mainGlobals "str" = some none)
    (zlist : PySem.W.nsIn K mainGlobals "list" = some none)
    (ztuple : PySem.W.nsIn K mainGlobals "tuple" = some none)
    (zrange : PySem.W.nsIn K mainGlobals "range" = some none)
    (zenumerate : PySem.W.nsIn K mainGlobals "enumerate" = some none)
    (zzip : PySem.W.nsIn K mainGlobals "zip" = some none)
    (zint : PySem.W.nsIn K mainGlobals "int" = some none)
    (zbool : PySem.W.nsIn K mainGlobals "bool" = some none)
    (zdict : PySem.W.nsIn K mainGlobals "dict" = some none)
    (zmin : PySem.W.nsIn K mainGlobals "min" = some none)
    (zmax : PySem.W.nsIn K mainGlobals "max" = some none)
    (zValueError : PySem.W.nsIn K mainGlobals "ValueError" = some none)
    : ∃ fd : FuncData, (∀ (s : Shared) (v : Value), BindsTo s fd ⟨[v], []⟩ [("_law_script", v)]) ∧ ∀ base : Heap, K.In base → base.Ns mainGlobals mg → FnOk l.prog w K mg base CX0 13 fa fd ["_law_script"] (spLaw K) := by
  have e := hfa.symm.trans (PySem.W.mg_of X G a34)
  cases e
  have T : Txt K mg (⟨t_FIRST_SIGN, t_LAST_SIGN, a_NO_SIGNS, a_STEPS, v_STEPS0, v_STEPS1, v_STEPS2, t_GAP, t_LINE_END, C_Block, C_WeaveError, C_NoBlock, C_NoText, C_NoRow, C_NoPrices, C_NoSign, C_NoNote⟩ : Pm) w := ⟨PySem.W.mg_none_of X G zlen, PySem.W.mg_none_of X G zord, PySem.W.mg_none_of X G zall, PySem.W.mg_none_of X G zany, PySem.W.mg_none_of X G zisinstance, PySem.W.mg_none_of X G zstr, PySem.W.mg_none_of X G zlist, PySem.W.mg_none_of X G ztuple, PySem.W.mg_none_of X G zrange, PySem.W.mg_none_of X G zenumerate, PySem.W.mg_none_of X G zzip, PySem.W.mg_none_of X G zint, PySem.W.mg_none_of X G zbool, PySem.W.mg_none_of X G zdict, PySem.W.mg_none_of X G zmin, PySem.W.mg_none_of X G zmax, PySem.W.mg_none_of X G zValueError, PySem.W.mg_of X G g_FIRST_SIGN, PySem.W.mg_of X G g_LAST_SIGN, PySem.W.mg_of X G g_NO_SIGNS, fun H => .inr ⟨_, _, _, l_NO_SIGNS, rfl, rfl, (by show 3 ≤ sizeLine; decide), .cons ⟨_, rfl⟩ (.cons ⟨_, rfl⟩ (.cons ⟨_, rfl⟩ (.nil)))⟩, PySem.W.mg_of X G g_STEPS, fun P => KDict.mk (P := P) (w := w) [((Str.ofString "p"), t_STEPS0, .ref v_STEPS0), ((Str.ofString "a"), t_STEPS1, .ref v_STEPS1), ((Str.ofString "b"), t_STEPS2, .ref v_STEPS2)] l_STEPS rfl (show ([(Str.ofString "p"), (Str.ofString "a"), (Str.ofString "b")] : List Str).Nodup by decide +kernel) (vs := [.ref v_STEPS0, .ref v_STEPS1, .ref v_STEPS2]) (.cons rfl (.cons rfl (.cons rfl (.nil)))) s_STEPS, fun H => .inr ⟨_, _, _, l_STEPS0, rfl, rfl, (by show 2 ≤ sizeLine; decide), .cons ⟨_, rfl⟩ (.cons ⟨_, rfl⟩ (.nil))⟩, fun H => .inr ⟨_, _, _, l_STEPS1, rfl, rfl, (by show 2 ≤ sizeLine; decide), .cons ⟨_, rfl⟩ (.cons ⟨_, rfl⟩ (.nil))⟩, fun H => .inr ⟨_, _, _, l_STEPS2, rfl, rfl, (by show 2 ≤ sizeLine; decide), .cons ⟨_, rfl⟩ (.cons ⟨_, rfl⟩ (.nil))⟩, PySem.W.mg_of X G g_GAP, PySem.W.mg_of X G g_LINE_END, PySem.W.mg_of X G aC_Block, ⟨pg_Block, hd_Block, po_Block, sa_Block⟩, nA_Block_rows, ii_Block, PySem.W.mg_of X G aC_WeaveError, ⟨b1_WeaveError, b2_WeaveError, b3_WeaveError⟩, PySem.W.mg_of X G aC_NoBlock, xcls_of xi_NoBlock, ⟨y0_NoBlock, y1_NoBlock, y2_NoBlock, y3_NoBlock, y4_NoBlock, y5_NoBlock, y6_NoBlock, y7_NoBlock⟩, PySem.W.mg_of X G aC_NoText, ⟨y0_NoText, y1_NoText, y2_NoText, y3_NoText, y4_NoText, y5_NoText, y6_NoText, y7_NoText⟩, PySem.W.mg_of X G aC_NoRow, xcls_of xi_NoRow, PySem.W.mg_of X G aC_NoPrices, PySem.W.mg_of X G aC_NoSign, PySem.W.mg_of X G aC_NoNote, ⟨u1_NoText, u2_NoText, u3_NoText⟩, ⟨_, xclsI_of xj_NoText⟩, nA_NoText_line, ⟨w1_WeaveError, w2_WeaveError, w3_WeaveError⟩, ks_NoBlock_WeaveError, ks_NoText_WeaveError, ki_NoBlock_NoPrices, ki_NoBlock_NoSign, ki_NoBlock_NoNote, ki_NoText_NoPrices, ki_NoText_NoSign, ki_NoText_NoNote, ki_NoBlock_NoBlock, ki_NoBlock_NoText, ki_NoText_NoText, ki_NoText_NoBlock, ki_NoBlock_ValueError, ki_NoText_ValueError⟩
  have F_NoText___init__ := fun_mk (st := s_NoText___init__) l0 c0 k0
  have D_NoText___init__ : Dm K "__init__" "NoText.__init__" s_NoText___init__ ["self", "line"] _ _ := ⟨F_NoText___init__, F_NoText___init__.binds (ps := ["self", "line"]) fun _ _ _ _ _ _ us hl => by obtain ⟨_, _, rfl⟩ := GP.len2 hl; exact rfl⟩
  have F_is_sign := fun_mk (st := s_is_sign) l1 c1 k1
  have D_is_sign : Dn K mg "is_sign" s_is_sign ["sign"] _ _ := ⟨F_is_sign, F_is_sign.binds (ps := ["sign"]) fun _ _ _ _ _ _ us hl => by obtain ⟨_, rfl⟩ := GP.len1 hl; exact rfl, PySem.W.mg_of X G a1⟩
  have F_are_signs := fun_mk (st := s_are_signs) l2 c2 k2
  have D_are_signs : Dn K mg "are_signs" s_are_signs ["text"] _ _ := ⟨F_are_signs, F_are_signs.binds (ps := ["text"]) fun _ _ _ _ _ _ us hl => by obtain ⟨_, rfl⟩ := GP.len1 hl; exact rfl, PySem.W.mg_of X G a2⟩
  have F_check_place := fun_mk (st := s_check_place) l3 c3 k3
  have D_check_place : Dn K mg "check_place" s_check_place ["first", "second", "place"] _ _ := ⟨F_check_place, F_check_place.binds (ps := ["first", "second", "place"]) fun _ _ _ _ _ _ us hl => by obtain ⟨_, _, _, rfl⟩ := GP.len3 hl; exact rfl, PySem.W.mg_of X G a3⟩
  have F_place_behind := fun_mk (st := s_place_behind) l4 c4 k4
  have D_place_behind : Dn K mg "place_behind" s_place_behind ["place", "move"] _ _ := ⟨F_place_behind, F_place_behind.binds (ps := ["place", "move"]) fun _ _ _ _ _ _ us hl => by obtain ⟨_, _, rfl⟩ := GP.len2 hl; exact rfl, PySem.W.mg_of X G a4⟩
  have F_places_of := fun_mk (st := s_places_of) l5 c5 k5
  have D_places_of : Dn K mg "places_of" s_places_of ["first", "second", "begin", "moves"] _ _ := ⟨F_places_of, F_places_of.binds (ps := ["first", "second", "begin", "moves"]) fun _ _ _ _ _ _ us hl => by obtain ⟨_, _, _, _, rfl⟩ := GP.len4 hl; exact rfl, PySem.W.mg_of X G a5⟩
  have F_may_end := fun_mk (st := s_may_end) l6 c6 k6
  have D_may_end : Dn K mg "may_end" s_may_end ["manner", "first", "second", "place"] _ _ := ⟨F_may_end, F_may_end.binds (ps := ["manner", "first", "second", "place"]) fun _ _ _ _ _ _ us hl => by obtain ⟨_, _, _, _, rfl⟩ := GP.len4 hl; exact rfl, PySem.W.mg_of X G a6⟩
  have F_things_at := fun_mk (st := s_things_at) l7 c7 k7
  have D_things_at : Dn K mg "things_at" s_things_at ["texts", "place"] _ _ := ⟨F_things_at, F_things_at.binds (ps := ["texts", "place"]) fun _ _ _ _ _ _ us hl => by obtain ⟨_, _, rfl⟩ := GP.len2 hl; exact rfl, PySem.W.mg_of X G a7⟩
  have F_turned := fun_mk (st := s_turned) l8 c8 k8
  have D_turned : Dn K mg "turned" s_turned ["texts", "many"] _ _ := ⟨F_turned, F_turned.binds (ps := ["texts", "many"]) fun _ _ _ _ _ _ us hl => by obtain ⟨_, _, rfl⟩ := GP.len2 hl; exact rfl, PySem.W.mg_of X G a8⟩
  have F_columns_of := fun_mk (st := s_columns_of) l9 c9 k9
  have D_columns_of : Dn K mg "columns_of" s_columns_of ["rows"] _ _ := ⟨F_columns_of, F_columns_of.binds (ps := ["rows"]) fun _ _ _ _ _ _ us hl => by obtain ⟨_, rfl⟩ := GP.len1 hl; exact rfl, PySem.W.mg_of X G a9⟩
  have F_laid_columns := fun_mk (st := s_laid_columns) l10 c10 k10
  have D_laid_columns : Dn K mg "laid_columns" s_laid_columns ["ones", "others", "one_gaps", "other_gaps", "moves"] _ _ := ⟨F_laid_columns, F_laid_columns.binds (ps := ["ones", "others", "one_gaps", "other_gaps", "moves"]) fun _ _ _ _ _ _ us hl => by obtain ⟨_, _, _, _, _, rfl⟩ := GP.len5 hl; exact rfl, PySem.W.mg_of X G a10⟩
  have F_is_gaps := fun_mk (st := s_is_gaps) l11 c11 k11
  have D_is_gaps : Dn K mg "is_gaps" s_is_gaps ["column"] _ _ := ⟨F_is_gaps, F_is_gaps.binds (ps := ["column"]) fun _ _ _ _ _ _ us hl => by obtain ⟨_, rfl⟩ := GP.len1 hl; exact rfl, PySem.W.mg_of X G a11⟩
  have F_signs_of := fun_mk (st := s_signs_of) l12 c12 k12
  have D_signs_of : Dn K mg "signs_of" s_signs_of ["things"] _ _ := ⟨F_signs_of, F_signs_of.binds (ps := ["things"]) fun _ _ _ _ _ _ us hl => by obtain ⟨_, rfl⟩ := GP.len1 hl; exact rfl, PySem.W.mg_of X G a12⟩
  have F_check_lengths := fun_mk (st := s_check_lengths) l13 c13 k13
  have D_check_lengths : Dn K mg "check_lengths" s_check_lengths ["rows"] _ _ := ⟨F_check_lengths, F_check_lengths.binds (ps := ["rows"]) fun _ _ _ _ _ _ us hl => by obtain ⟨_, rfl⟩ := GP.len1 hl; exact rfl, PySem.W.mg_of X G a13⟩
  have F_are_things := fun_mk (st := s_are_things) l14 c14 k14
  have D_are_things : Dn K mg "are_things" s_are_things ["row"] _ _ := ⟨F_are_things, F_are_things.binds (ps := ["row"]) fun _ _ _ _ _ _ us hl => by obtain ⟨_, rfl⟩ := GP.len1 hl; exact rfl, PySem.W.mg_of X G a14⟩
  have F_check_things := fun_mk (st := s_check_things) l15 c15 k15
  have D_check_things : Dn K mg "check_things" s_check_things ["rows"] _ _ := ⟨F_check_things, F_check_things.binds (ps := ["rows"]) fun _ _ _ _ _ _ us hl => by obtain ⟨_, rfl⟩ := GP.len1 hl; exact rfl, PySem.W.mg_of X G a15⟩
  have F_check_columns := fun_mk (st := s_check_columns) l16 c16 k16
  have D_check_columns : Dn K mg "check_columns" s_check_columns ["rows"] _ _ := ⟨F_check_columns, F_check_columns.binds (ps := ["rows"]) fun _ _ _ _ _ _ us hl => by obtain ⟨_, rfl⟩ := GP.len1 hl; exact rfl, PySem.W.mg_of X G a16⟩
  have F_Block___init__ := fun_mk (st := s_Block___init__) l17 c17 k17
  have D_Block___init__ : Dm K "__init__" "Block.__init__" s_Block___init__ ["self", "rows"] _ _ := ⟨F_Block___init__, F_Block___init__.binds (ps := ["self", "rows"]) fun _ _ _ _ _ _ us hl => by obtain ⟨_, _, rfl⟩ := GP.len2 hl; exact rfl⟩
  have F_check_row := fun_mk (st := s_check_row) l18 c18 k18
  have D_check_row : Dn K mg "check_row" s_check_row ["block", "row"] _ _ := ⟨F_check_row, F_check_row.binds (ps := ["block", "row"]) fun _ _ _ _ _ _ us hl => by obtain ⟨_, _, rfl⟩ := GP.len2 hl; exact rfl, PySem.W.mg_of X G a18⟩
  have F_bare := fun_mk (st := s_bare) l19 c19 k19
  have D_bare : Dn K mg "bare" s_bare ["block", "row"] _ _ := ⟨F_bare, F_bare.binds (ps := ["block", "row"]) fun _ _ _ _ _ _ us hl => by obtain ⟨_, _, rfl⟩ := GP.len2 hl; exact rfl, PySem.W.mg_of X G a19⟩
  have F_written_block := fun_mk (st := s_written_block) l20 c20 k20
  have D_written_block : Dn K mg "written_block" s_written_block ["block"] _ _ := ⟨F_written_block, F_written_block.binds (ps := ["block"]) fun _ _ _ _ _ _ us hl => by obtain ⟨_, rfl⟩ := GP.len1 hl; exact rfl, PySem.W.mg_of X G a20⟩
  have F_written_laying := fun_mk (st := s_written_laying) l21 c21 k21
  have D_written_laying : Dn K mg "written_laying" s_written_laying ["first", "second", "moves"] _ _ := ⟨F_written_laying, F_written_laying.binds (ps := ["first", "second", "moves"]) fun _ _ _ _ _ _ us hl => by obtain ⟨_, _, _, rfl⟩ := GP.len3 hl; exact rfl, PySem.W.mg_of X G a21⟩
  have F_read_block := fun_mk (st := s_read_block) l22 c22 k22
  have D_read_block : Dn K mg "read_block" s_read_block ["text"] _ _ := ⟨F_read_block, F_read_block.binds (ps := ["text"]) fun _ _ _ _ _ _ us hl => by obtain ⟨_, rfl⟩ := GP.len1 hl; exact rfl, PySem.W.mg_of X G a22⟩
  have F_check_two_rows := fun_mk (st := s_check_two_rows) l23 c23 k23
  have D_check_two_rows : Dn K mg "check_two_rows" s_check_two_rows ["text"] _ _ := ⟨F_check_two_rows, F_check_two_rows.binds (ps := ["text"]) fun _ _ _ _ _ _ us hl => by obtain ⟨_, rfl⟩ := GP.len1 hl; exact rfl, PySem.W.mg_of X G a23⟩
  have F_move_of := fun_mk (st := s_move_of) l24 c24 k24
  have D_move_of : Dn K mg "move_of" s_move_of ["column"] _ _ := ⟨F_move_of, F_move_of.binds (ps := ["column"]) fun _ _ _ _ _ _ us hl => by obtain ⟨_, rfl⟩ := GP.len1 hl; exact rfl, PySem.W.mg_of X G a24⟩
  have F_read_laying := fun_mk (st := s_read_laying) l25 c25 k25
  have D_read_laying : Dn K mg "read_laying" s_read_laying ["text"] _ _ := ⟨F_read_laying, F_read_laying.binds (ps := ["text"]) fun _ _ _ _ _ _ us hl => by obtain ⟨_, rfl⟩ := GP.len1 hl; exact rfl, PySem.W.mg_of X G a25⟩
  have F_law_next := fun_mk (st := s_law_next) l26 c26 k26
  have D_law_next : Dn K mg "_law_next" s_law_next ["_law_script", "_law_at"] _ _ := ⟨F_law_next, F_law_next.binds (ps := ["_law_script", "_law_at"]) fun _ _ _ _ _ _ us hl => by obtain ⟨_, _, rfl⟩ := GP.len2 hl; exact rfl, PySem.W.mg_of X G a26⟩
  have F_law_signs := fun_mk (st := s_law_signs) l27 c27 k27
  have D_law_signs : Dn K mg "_law_signs" s_law_signs ["_law_script", "_law_at", "_law_many"] _ _ := ⟨F_law_signs, F_law_signs.binds (ps := ["_law_script", "_law_at", "_law_many"]) fun _ _ _ _ _ _ us hl => by obtain ⟨_, _, _, rfl⟩ := GP.len3 hl; exact rfl, PySem.W.mg_of X G a27⟩
  have F_law_same := fun_mk (st := s_law_same) l28 c28 k28
  have D_law_same : Dn K mg "_law_same" s_law_same ["_law_found", "_law_due"] _ _ := ⟨F_law_same, F_law_same.binds (ps := ["_law_found", "_law_due"]) fun _ _ _ _ _ _ us hl => by obtain ⟨_, _, rfl⟩ := GP.len2 hl; exact rfl, PySem.W.mg_of X G a28⟩
  have F_law_columns := fun_mk (st := s_law_columns) l29 c29 k29
  have D_law_columns : Dn K mg "_law_columns" s_law_columns ["_law_script", "_law_at", "_law_signs_here", "_law_high", "_law_wide"] _ _ := ⟨F_law_columns, F_law_columns.binds (ps := ["_law_script", "_law_at", "_law_signs_here", "_law_high", "_law_wide"]) fun _ _ _ _ _ _ us hl => by obtain ⟨_, _, _, _, _, rfl⟩ := GP.len5 hl; exact rfl, PySem.W.mg_of X G a29⟩
  have F_law_told := fun_mk (st := s_law_told) l30 c30 k30
  have D_law_told : Dn K mg "_law_told" s_law_told ["_law_text", "_law_laying_here"] _ _ := ⟨F_law_told, F_law_told.binds (ps := ["_law_text", "_law_laying_here"]) fun _ _ _ _ _ _ us hl => by obtain ⟨_, _, rfl⟩ := GP.len2 hl; exact rfl, PySem.W.mg_of X G a30⟩
  have F_law_spoilt := fun_mk (st := s_law_spoilt) l31 c31 k31
  have D_law_spoilt : Dn K mg "_law_spoilt" s_law_spoilt ["_law_script", "_law_at", "_law_rows"] _ _ := ⟨F_law_spoilt, F_law_spoilt.binds (ps := ["_law_script", "_law_at", "_law_rows"]) fun _ _ _ _ _ _ us hl => by obtain ⟨_, _, _, rfl⟩ := GP.len3 hl; exact rfl, PySem.W.mg_of X G a31⟩
  have F_law_laying := fun_mk (st := s_law_laying) l32 c32 k32
  have D_law_laying : Dn K mg "_law_laying" s_law_laying ["_law_script", "_law_at", "_law_signs_here"] _ _ := ⟨F_law_laying, F_law_laying.binds (ps := ["_law_script", "_law_at", "_law_signs_here"]) fun _ _ _ _ _ _ us hl => by obtain ⟨_, _, _, rfl⟩ := GP.len3 hl; exact rfl, PySem.W.mg_of X G a32⟩
  have F_law_one := fun_mk (st := s_law_one) l33 c33 k33
  have D_law_one : Dn K mg "_law_one" s_law_one ["_law_script", "_law_at"] _ _ := ⟨F_law_one, F_law_one.binds (ps := ["_law_script", "_law_at"]) fun _ _ _ _ _ _ us hl => by obtain ⟨_, _, rfl⟩ := GP.len2 hl; exact rfl, PySem.W.mg_of X G a33⟩
  have F_law := fun_mk (st := s_law) l34 c34 k34
  have D_law : Dn K mg "law" s_law ["_law_script"] _ _ := ⟨F_law, F_law.binds (ps := ["_law_script"]) fun _ _ _ _ _ _ us hl => by obtain ⟨_, rfl⟩ := GP.len1 hl; exact rfl, PySem.W.mg_of X G a34⟩
  exact ⟨PySem.W.fnOf "law" "law" (defArgs s_law) (defBody s_law) (defScope s_law) .none kV34 dc34 pm34 an34 cd34 ct34, fun s v => .of_eq rfl, fun base _ _ => law_ok (p := (⟨t_FIRST_SIGN, t_LAST_SIGN, a_NO_SIGNS, a_STEPS, v_STEPS0, v_STEPS1, v_STEPS2, t_GAP, t_LINE_END, C_Block, C_WeaveError, C_NoBlock, C_NoText, C_NoRow, C_NoPrices, C_NoSign, C_NoNote⟩ : Pm)) T D_NoText___init__ D_is_sign D_are_signs D_check_place D_place_behind D_places_of D_may_end D_things_at D_turned D_columns_of D_laid_columns D_is_gaps D_signs_of D_check_lengths D_are_things D_check_things D_check_columns D_Block___init__ D_check_row D_bare D_written_block D_written_laying D_read_block D_check_two_rows D_move_of D_read_laying D_law_next D_law_signs D_law_same D_law_columns D_law_told D_law_spoilt D_law_laying D_law_one D_law ⟨xclsI_of xj_NoText, i0, kc_NoText⟩ ⟨mk_Block, a17, i17, kc_Block⟩⟩
theorem walk {l : PySem.W.OpenLaw} {q : Program} {loose : List Str} {XP : (Str → Option Value) → Heap → Prop} {as : List Addr} {N t : Nat} {d : DefRec} {K : Params → PySem.W.Frag} (hn : l.most = some 63) (hdf : d.params.defaults = [])
    (hk : ∀ P, as = (K P).map (·.1)) (ht : ∀ P, tokAll (K P) t = true)
    (F : ∀ (w : World) (mg : Str → Option Value) (fa : Addr) (h : Heap), (K w.params).In h → h.Ns mainGlobals mg → mg d.name = some (.ref fa) →
      ∃ fd : FuncData, (∀ (s : Shared) (u : Value), BindsTo s fd ⟨[u], []⟩ [("_law_script", u)]) ∧ ∀ base : Heap, (K w.params).In base → base.Ns mainGlobals mg → FnOk l.prog w (K w.params) mg base CX0 13 fa fd ["_law_script"] (spLaw (K w.params))) :
    PySem.W.WalkX q loose XP (PySem.W.X.obsZ as) (PySem.W.X.valZ K N t) l.row.toRowW d [] (fun f vs => PySem.call f vs) :=
  L2.walk_ofZ (n := 63) (k := 13) (x := "_law_script") (CX := fun _ => CX0) (sp := fun w => spLaw (K w.params)) hn (by decide) hdf ⟨rfl, by decide, by decide⟩ hk ht F (fun _ _ a ns hl _ hS => ⟨a, ns, rfl, hS, hl, fun _ => rfl⟩) fun _ _ _ _ _ z => z
end G67
theorem PySem.W.Fast.tw1886959857367815059 : True := trivial
theorem PySem.W.Fast.tw8604957901615895577 : True := trivial
theorem PySem.W.Fast.tw6887011106712921738 : True := trivial
theorem PySem.W.Fast.tw8140796435016867188 : True := trivial
theorem PySem.W.Fast.tw4310985481817976181 : True := trivial
theorem PySem.W.Fast.tw3658666589796660494 : True := trivial
theorem PySem.W.Fast.tw1657798428032704303 : True := trivial
theorem PySem.W.Fast.tw15290294502680431618 : True := trivial
theorem PySem.W.Fast.tw11459849349218385066 : True := trivial
theorem PySem.W.Fast.tw15463983283263955430 : True := trivial
theorem PySem.W.Fast.tw13386269009861836179 : True := trivial
theorem PySem.W.Fast.tw16044699485239365649 : True := trivial
theorem PySem.W.Fast.tw11650225016545489892 : True := trivial
theorem PySem.W.Fast.tw7005510839245138555 : True := trivial
theorem PySem.W.Fast.tw16393537439292321330 : True := trivial
theorem PySem.W.Fast.tw16634358286416519539 : True := trivial
theorem PySem.W.Fast.tw6013745114441991017 : True := trivial
theorem PySem.W.Fast.tw16907026260033315927 : True := trivial
theorem PySem.W.Fast.tw15777764754196338063 : True := trivial
theorem PySem.W.Fast.tw3668842990351937734 : True := trivial
theorem PySem.W.Fast.tw11546959183390302037 : True := trivial
theorem PySem.W.Fast.tw14494482321413796947 : True := trivial
theorem PySem.W.Fast.tw18085950447619583087 : True := trivial
theorem PySem.W.Fast.tw7361469760358979533 : True := trivial
theorem PySem.W.Fast.tw8879463361288589218 : True := trivial
theorem PySem.W.Fast.tw10719511131928514534 : True := trivial
theorem PySem.W.Fast.tw10661187294249528300 : True := trivial
theorem PySem.W.Fast.tw1598269379712520882 : True := trivial
theorem PySem.W.Fast.tw17506420534121888172 : True := trivial
theorem PySem.W.Fast.tw18158626507783170507 : True := trivial
theorem PySem.W.Fast.tw10219530277149948489 : True := trivial
theorem PySem.W.Fast.tw14975952586296136216 : True := trivial
theorem PySem.W.Fast.tw15562167706155628725 : True := trivial
theorem PySem.W.Fast.tw1650352963338353911 : True := trivial
theorem PySem.W.Fast.tw13417402656366971486 : True := trivial
theorem PySem.W.Fast.tw1542297705876884088 : True := trivial
theorem PySem.W.Fast.tw9759348120108459676 : True := trivial
theorem PySem.W.Fast.tw3077067918286361055 : True := trivial
theorem PySem.W.Fast.tw13706817009066991509 : True := trivial
theorem PySem.W.Fast.tw15844375565079191144 : True := trivial
theorem PySem.W.Fast.tw3553524401706980851 : True := trivial
theorem PySem.W.Fast.tw18155441316914037884 : True := trivial
theorem PySem.W.Fast.tw18418569927485731844 : True := trivial
theorem PySem.W.Fast.tw17004650235711949881 : True := trivial
theorem PySem.W.Fast.tw1195521917491153396 : True := trivial
theorem PySem.W.Fast.tw14912470282471145364 : True := trivial
theorem PySem.W.Fast.tw15893896329107082522 : True := trivial
theorem PySem.W.Fast.tw12400817921736401185 : True := trivial
theorem PySem.W.Fast.tw2784296731739938100 : True := trivial
theorem PySem.W.Fast.tw12346178471255318944 : True := trivial
theorem PySem.W.Fast.tw8874372316379733659 : True := trivial
theorem PySem.W.Fast.tw8613563930659832766 : True := trivial
theorem PySem.W.Fast.tw5103907309028421760 : True := trivial
theorem PySem.W.Fast.tw466064586566104024 : True := trivial
theorem PySem.W.Fast.tw14242985204213462071 : True := trivial
theorem PySem.W.Fast.tw3834063026435358310 : True := trivial
theorem PySem.W.Fast.tw18370620714541834678 : True := trivial
theorem PySem.W.Fast.tw16377107242522346066 : True := trivial
theorem PySem.W.Fast.tw371766360152749251 : True := trivial
theorem PySem.W.Fast.tw8846285190096831863 : True := trivial
theorem PySem.W.Fast.tw13547102511768482349 : True := trivial
theorem PySem.W.Fast.tw12430879240087462784 : True := trivial
theorem PySem.W.Fast.tw17568073742676947702 : True := trivial
theorem PySem.W.Fast.tw3447058066222530943 : True := trivial
theorem PySem.W.Fast.tw9372388297228326553 : True := trivial
theorem PySem.W.Fast.tw5299578702859666765 : True := trivial
theorem PySem.W.Fast.tw14374322365448238479 : True := trivial
theorem PySem.W.Fast.tw12530125436888172127 : True := trivial
theorem PySem.W.Fast.tw14774202151905389725 : True := trivial
theorem PySem.W.Fast.tw17668694152747507146 : True := trivial
theorem PySem.W.Fast.tw6908851498901766231 : True := trivial
theorem PySem.W.Fast.tw8636201692531139322 : True := trivial
theorem PySem.W.Fast.tw11220835225435904395 : True := trivial
theorem PySem.W.Fast.tw12297373252606538714 : True := trivial
theorem PySem.W.Fast.tw14275781965843199311 : True := trivial
theorem PySem.W.Fast.tw4630665553359985973 : True := trivial
theorem PySem.W.Fast.tw2386844701060614368 : True := trivial
theorem PySem.W.Fast.tw3598132114055697997 : True := trivial
theorem PySem.W.Fast.tw13454727522657068472 : True := trivial
theorem PySem.W.Fast.tw11746224717607402754 : True := trivial
theorem PySem.W.Fast.tw9308879586391342509 : True := trivial
theorem PySem.W.Fast.tw15958663409699868616 : True := trivial
theorem PySem.W.Fast.tw2785975508162753132 : True := trivial
theorem PySem.W.Fast.tw16726014469846148301 : True := trivial
theorem PySem.W.Fast.tw8366333736914567916 : True := trivial
theorem PySem.W.Fast.tw571450542705143752 : True := trivial
theorem PySem.W.Fast.tw11653187117544487196 : True := trivial
theorem PySem.W.Fast.tw12853425129988190182 : True := trivial
theorem PySem.W.Fast.tw14777353910927514073 : True := trivial
theorem PySem.W.Fast.tw16632940726803075871 : True := trivial
theorem PySem.W.Fast.tw10427652638718455438 : True := trivial
theorem PySem.W.Fast.tw14586161679096182176 : True := trivial
theorem PySem.W.Fast.tw5435299406925723328 : True := trivial
theorem PySem.W.Fast.tw9451183674211355294 : True := trivial
theorem PySem.W.Fast.tw400709464845993618 : True := trivial
theorem PySem.W.Fast.tw15559409770740994561 : True := trivial
theorem PySem.W.Fast.tw250326411618946705 : True := trivial
theorem PySem.W.Fast.tw7391447680845390049 : True := trivial
theorem PySem.W.Fast.tw9782759778538139000 : True := trivial
theorem PySem.W.Fast.tw932585185118080788 : True := trivial
theorem PySem.W.Fast.tw3594232995302215919 : True := trivial
theorem PySem.W.Fast.tw12662940795120751225 : True := trivial
theorem PySem.W.Fast.tw17465121514952762036 : True := trivial
theorem PySem.W.Fast.tw16106819192749470459 : True := trivial
theorem PySem.W.Fast.tw13155124539485661631 : True := trivial
theorem PySem.W.Fast.tw10241021271254679739 : True := trivial
theorem PySem.W.Fast.tw5081858048087222882 : True := trivial
theorem PySem.W.Fast.tw3331959638124198509 : True := trivial
theorem PySem.W.Fast.tw2048593987107162989 : True := trivial
theorem PySem.W.Fast.tw10514384704561728047 : True := trivial
theorem PySem.W.Fast.tw13287746363588825605 : True := trivial
theorem PySem.W.Fast.tw12609540694470769438 : True := trivial
theorem PySem.W.Fast.tw7892604719858818127 : True := trivial
theorem PySem.W.Fast.tw13416338630809394730 : True := trivial
theorem PySem.W.Fast.tw15284694495457463779 : True := trivial
theorem PySem.W.Fast.tw430489434221433464 : True := trivial
theorem PySem.W.Fast.tw11760895754704820917 : True := trivial
theorem PySem.W.Fast.tw9945140491180137345 : True := trivial
theorem PySem.W.Fast.tw15134122816249326056 : True := trivial
theorem PySem.W.Fast.tw4391495880681751124 : True := trivial
theorem PySem.W.Fast.tw17858676416698095156 : True := trivial
theorem PySem.W.Fast.tw148260671694346126 : True := trivial
theorem PySem.W.Fast.tw15763826614879571652 : True := trivial
theorem PySem.W.Fast.tw15878550603221946831 : True := trivial
theorem PySem.W.Fast.tw16069140808821485558 : True := trivial
theorem PySem.W.Fast.tw444501674658242788 : True := trivial
theorem PySem.W.Fast.tw3000189749971507903 : True := trivial
theorem PySem.W.Fast.tw16958778275136366540 : True := trivial
theorem PySem.W.Fast.tw12760467312097902422 : True := trivial
theorem PySem.W.Fast.tw4582031694631487142 : True := trivial
theorem PySem.W.Fast.tw8687190071275367048 : True := trivial
theorem PySem.W.Fast.tw1553306782246210775 : True := trivial
theorem PySem.W.Fast.tw13462589960457427105 : True := trivial
theorem PySem.W.Fast.tw13824616304543901133 : True := trivial
theorem PySem.W.Fast.tw13467697941371868172 : True := trivial
theorem PySem.W.Fast.tw5366565622041533314 : True := trivial
theorem PySem.W.Fast.tw13258015299518277043 : True := trivial
theorem PySem.W.Fast.tw12043448281042172170 : True := trivial
theorem PySem.W.Fast.tw9536617530368826097 : True := trivial
theorem PySem.W.Fast.tw6997166193859727039 : True := trivial
theorem PySem.W.Fast.tw14158357129301741334 : True := trivial
theorem PySem.W.Fast.tw1226277522115166981 : True := trivial
theorem PySem.W.Fast.tw12022623951505681098 : True := trivial
theorem PySem.W.Fast.tw14437480228732200135 : True := trivial
theorem PySem.W.Fast.tw8528286682872466905 : True := trivial
theorem PySem.W.Fast.tw14425414975746670997 : True := trivial
theorem PySem.W.Fast.tw14661225909821342590 : True := trivial
theorem PySem.W.Fast.tw4063545915636329640 : True := trivial
theorem PySem.W.Fast.tw9518087414803526469 : True := trivial
theorem PySem.W.Fast.tw18307699671418554217 : True := trivial
theorem PySem.W.Fast.tw11889170708679663701 : True := trivial
theorem PySem.W.Fast.tw3478536057548575095 : True := trivial
theorem PySem.W.Fast.tw11837472623879067190 : True := trivial
theorem PySem.W.Fast.tw3281611987325622569 : True := trivial
theorem PySem.W.Fast.tw1830665744758550525 : True := trivial
theorem PySem.W.Fast.tw16592432167833789500 : True := trivial
theorem PySem.W.Fast.tw4235273775892063878 : True := trivial
theorem PySem.W.Fast.tw8066662565406932448 : True := trivial
theorem PySem.W.Fast.tw7584670089522535825 : True := trivial
theorem PySem.W.Fast.tw16651838790814394024 : True := trivial
theorem PySem.W.Fast.tw17230304658955058636 : True := trivial
theorem PySem.W.Fast.tw16871464174882056591 : True := trivial
theorem PySem.W.Fast.tw4529620000158262761 : True := trivial
theorem PySem.W.Fast.tw13995751317339802939 : True := trivial
theorem PySem.W.Fast.tw17440143620811520563 : True := trivial
theorem PySem.W.Fast.tw13895759172621352575 : True := trivial
theorem PySem.W.Fast.tw2834995181861986300 : True := trivial
theorem PySem.W.Fast.tw10901250444473058558 : True := trivial
theorem PySem.W.Fast.tw16413020730215293995 : True := trivial
theorem PySem.W.Fast.tw331220540175476472 : True := trivial
theorem PySem.W.Fast.tw1581522807570569477 : True := trivial
theorem PySem.W.Fast.tw15006207434731511989 : True := trivial
theorem PySem.W.Fast.tw12436022675680079369 : True := trivial
theorem PySem.W.Fast.tw18187958125806107642 : True := trivial
theorem PySem.W.Fast.tw5505295449155155796 : True := trivial
theorem PySem.W.Fast.tw3124824919935652414 : True := trivial
theorem PySem.W.Fast.tw8851042837257197960 : True := trivial
theorem PySem.W.Fast.tw6590062916140511437 : True := trivial
theorem PySem.W.Fast.tw13472252969109126860 : True := trivial
theorem PySem.W.Fast.tw3978528134231647066 : True := trivial
theorem PySem.W.Fast.tw14774985352581085705 : True := trivial
theorem PySem.W.Fast.tw15277088577390262961 : True := trivial
theorem PySem.W.Fast.tw1180170561897092064 : True := trivial
theorem PySem.W.Fast.tw18272745707543119601 : True := trivial
theorem PySem.W.Fast.tw2564097788571407122 : True := trivial
theorem PySem.W.Fast.tw10810322838924645726 : True := trivial
theorem PySem.W.Fast.tw8101109793040052852 : True := trivial
theorem PySem.W.Fast.tw4878645770587492928 : True := trivial
theorem PySem.W.Fast.tw4753451438385984063 : True := trivial
theorem PySem.W.Fast.tw7927542251191329811 : True := trivial
theorem PySem.W.Fast.tw1017465715410635152 : True := trivial
theorem PySem.W.Fast.tw9526814719022075686 : True := trivial
theorem PySem.W.Fast.tw1371863347465442533 : True := trivial
theorem PySem.W.Fast.tw1559917899926680576 : True := trivial
theorem PySem.W.Fast.tw9562306653711745457 : True := trivial
theorem PySem.W.Fast.tw12255512825751175027 : True := trivial
theorem PySem.W.Fast.tw10326276468515560052 : True := trivial
theorem PySem.W.Fast.tw7319516731312355217 : True := trivial
theorem PySem.W.Fast.tw1880213921002090956 : True := trivial
theorem PySem.W.Fast.tw3871773153830524421 : True := trivial
theorem PySem.W.Fast.tw10420828211088809392 : True := trivial
theorem PySem.W.Fast.tw1621851426500855292 : True := trivial
theorem PySem.W.Fast.tw7328533183864547423 : True := trivial
theorem PySem.W.Fast.tw9199073799971771923 : True := trivial
theorem PySem.W.Fast.tw10297895739274894567 : True := trivial
theorem PySem.W.Fast.tw855862290088282483 : True := trivial
theorem PySem.W.Fast.tw16984403690498986992 : True := trivial
theorem PySem.W.Fast.tw10708840824809644111 : True := trivial
theorem PySem.W.Fast.tw6998200035233499218 : True := trivial
theorem PySem.W.Fast.tw2698070057062737588 : True := trivial
theorem PySem.W.Fast.tw9110514196646622465 : True := trivial
theorem PySem.W.Fast.tw4634401774281726076 : True := trivial
theorem PySem.W.Fast.tw4347455941422439432 : True := trivial
theorem PySem.W.Fast.tw4648624667770054722 : True := trivial
theorem PySem.W.Fast.tw11251933209558819827 : True := trivial
theorem PySem.W.Fast.tw8547426946588411198 : True := trivial
theorem PySem.W.Fast.tw14280059384619485947 : True := trivial
theorem PySem.W.Fast.tw9551785704028752364 : True := trivial
theorem PySem.W.Fast.tw5295966471101619611 : True := trivial
theorem PySem.W.Fast.tw11619491506851569641 : True := trivial
theorem PySem.W.Fast.tw6761045402217771038 : True := trivial
theorem PySem.W.Fast.tw15361219550835777500 : True := trivial
theorem PySem.W.Fast.tw10685725498034858913 : True := trivial
theorem PySem.W.Fast.tw9916568049487443380 : True := trivial
theorem PySem.W.Fast.tw8463221972966674608 : True := trivial
theorem PySem.W.Fast.tw1523953012443134659 : True := trivial
theorem PySem.W.Fast.tw778580226971965007 : True := trivial
theorem PySem.W.Fast.tw1998564051875644589 : True := trivial
theorem PySem.W.Fast.tw14137300552860730240 : True := trivial
theorem PySem.W.Fast.tw4678642875072970836 : True := trivial
theorem PySem.W.Fast.tw13013476814502325709 : True := trivial
theorem PySem.W.Fast.tw8438615490663789975 : True := trivial
theorem PySem.W.Fast.tw3473727609070177337 : True := trivial
theorem PySem.W.Fast.tw3538371181245317444 : True := trivial
theorem PySem.W.Fast.tw17058915660564878973 : True := trivial
theorem PySem.W.Fast.tw15953177445783941857 : True := trivial
theorem PySem.W.Fast.tw4691245875474646900 : True := trivial
theorem PySem.W.Fast.tw11778565944471411376 : True := trivial
theorem PySem.W.Fast.tw8081047303890825304 : True := trivial
theorem PySem.W.Fast.tw11031038505355102446 : True := trivial
theorem PySem.W.Fast.tw15119605653622347245 : True := trivial
theorem PySem.W.Fast.tw6627881881944052710 : True := trivial
theorem PySem.W.Fast.tw4153993830393231517 : True := trivial
theorem PySem.W.Fast.tw3114339134579410579 : True := trivial
theorem PySem.W.Fast.tw1613866178989911498 : True := trivial
theorem PySem.W.Fast.tw9186171902351723190 : True := trivial
theorem PySem.W.Fast.tw13279342548765314378 : True := trivial
theorem PySem.W.Fast.tw10638366260193665865 : True := trivial
theorem PySem.W.Fast.tw890015468959535305 : True := trivial
theorem PySem.W.Fast.tw14460288882463165948 : True := trivial
theorem PySem.W.Fast.tw6838467735144007284 : True := trivial
theorem PySem.W.Fast.tw12366267274163221903 : True := trivial
theorem PySem.W.Fast.tw3746569230779139295 : True := trivial
theorem PySem.W.Fast.tw10778320428179396094 : True := trivial
theorem PySem.W.Fast.tw16656297216395714654 : True := trivial
theorem PySem.W.Fast.tw6914667109283141585 : True := trivial
theorem PySem.W.Fast.tw6477385742198962050 : True := trivial
theorem PySem.W.Fast.tw4740851431416646597 : True := trivial
theorem PySem.W.Fast.tw7777419807304857875 : True := trivial
theorem PySem.W.Fast.tw7472107348563159362 : True := trivial
theorem PySem.W.Fast.tw846286349260160220 : True := trivial
theorem PySem.W.Fast.tw12681829139789490299 : True := trivial
theorem PySem.W.Fast.tw14888278939571266781 : True := trivial
theorem PySem.W.Fast.tw12566866353486836884 : True := trivial
theorem PySem.W.Fast.tw2723619897731021544 : True := trivial
theorem PySem.W.Fast.tw3643316275917869521 : True := trivial
theorem PySem.W.Fast.tw8329404699346326755 : True := trivial
theorem PySem.W.Fast.tw2537315834548740083 : True := trivial
theorem PySem.W.Fast.tw8053584196148887816 : True := trivial
theorem PySem.W.Fast.tw17609795816182882849 : True := trivial
theorem PySem.W.Fast.tw7664412039409825703 : True := trivial
theorem PySem.W.Fast.tw15491665704499533386 : True := trivial
theorem PySem.W.Fast.tw14289056826603650601 : True := trivial
theorem PySem.W.Fast.tw16541975440217719217 : True := trivial
theorem PySem.W.Fast.tw6702815012751934867 : True := trivial
theorem PySem.W.Fast.tw15349356900757401814 : True := trivial
theorem PySem.W.Fast.tw14595706701332365322 : True := trivial
theorem PySem.W.Fast.tw2362367652888138728 : True := trivial
theorem PySem.W.Fast.tw16883914072929309805 : True := trivial
theorem PySem.W.Fast.tw14822999962732454400 : True := trivial
theorem PySem.W.Fast.tw6648526742092988433 : True := trivial
theorem PySem.W.Fast.tw6851747118688779025 : True := trivial
theorem PySem.W.Fast.tw2440689058582160280 : True := trivial
theorem PySem.W.Fast.tw12631383689384774862 : True := trivial
theorem PySem.W.Fast.tw16778173078105141921 : True := trivial
theorem PySem.W.Fast.tw6950445625161078745 : True := trivial
theorem PySem.W.Fast.tw9817037213313758434 : True := trivial
theorem PySem.W.Fast.tw15798822307503884646 : True := trivial
theorem PySem.W.Fast.tw18270096722882818238 : True := trivial
theorem PySem.W.Fast.tw3847089967992230538 : True := trivial
theorem PySem.W.Fast.tw17926665931267879961 : True := trivial
theorem PySem.W.Fast.tw5657480450650128901 : True := trivial
theorem PySem.W.Fast.tw6141992196195689803 : True := trivial
theorem PySem.W.Fast.tw9590935575764401702 : True := trivial
theorem PySem.W.Fast.tw15790148673603677784 : True := trivial
theorem PySem.W.Fast.tw13646130350909686475 : True := trivial
theorem PySem.W.Fast.tw17999201179971564997 : True := trivial
theorem PySem.W.Fast.tw12677593602459929348 : True := trivial
theorem PySem.W.Fast.tw8780224369126038409 : True := trivial
theorem PySem.W.Fast.tw7108074887215939224 : True := trivial
theorem PySem.W.Fast.tw8610619834003392609 : True := trivial
theorem PySem.W.Fast.tw11550293303403090146 : True := trivial
theorem PySem.W.Fast.tw16186822664069575430 : True := trivial
theorem PySem.W.Fast.tw9066112696503149641 : True := trivial
theorem PySem.W.Fast.tw16349698539046660479 : True := trivial
theorem PySem.W.Fast.tw14140349652930302320 : True := trivial
theorem PySem.W.Fast.tw1023926788490709651 : True := trivial
theorem PySem.W.Fast.tw5103170107150337289 : True := trivial
theorem PySem.W.Fast.tw11759716486474615577 : True := trivial
theorem PySem.W.Fast.tw12127377982094570430 : True := trivial
theorem PySem.W.Fast.tw17674703907616136461 : True := trivial
theorem PySem.W.Fast.tw7130407497052940615 : True := trivial
theorem PySem.W.Fast.tw16898769034501779607 : True := trivial
theorem PySem.W.Fast.tw857611298128246563 : True := trivial
theorem PySem.W.Fast.tw6188495755159588032 : True := trivial
theorem PySem.W.Fast.tw7359866699564059618 : True := trivial
theorem PySem.W.Fast.tw17020679834613211306 : True := trivial
theorem PySem.W.Fast.tw13678280810781707020 : True := trivial
theorem PySem.W.Fast.tw14790880222161851316 : True := trivial
theorem PySem.W.Fast.tw12417942896465411997 : True := trivial
theorem PySem.W.Fast.tw2635114239309257209 : True := trivial
theorem PySem.W.Fast.tw6023430967206584151 : True := trivial
theorem PySem.W.Fast.tw6150599129402851335 : True := trivial
theorem PySem.W.Fast.tw7640608715121762510 : True := trivial
theorem PySem.W.Fast.tw7922307402876767754 : True := trivial
theorem PySem.W.Fast.tw6812133853923503973 : True := trivial
theorem PySem.W.Fast.tw13620873408885331646 : True := trivial
theorem PySem.W.Fast.tw11523459097332830722 : True := trivial
theorem PySem.W.Fast.tw1610979005959296586 : True := trivial
theorem PySem.W.Fast.tw4087495533990317958 : True := trivial
theorem PySem.W.Fast.tw2971913367310973588 : True := trivial
theorem PySem.W.Fast.tw9861903182748388494 : True := trivial
theorem PySem.W.Fast.tw11367366761426526210 : True := trivial
theorem PySem.W.Fast.tw17345033116137529548 : True := trivial
theorem PySem.W.Fast.tw11203641071459310251 : True := trivial
theorem PySem.W.Fast.tw12085063372265738140 : True := trivial
theorem PySem.W.Fast.tw9285705407232876376 : True := trivial
theorem PySem.W.Fast.tw16560433819711126387 : True := trivial
theorem PySem.W.Fast.tw6421870155019769408 : True := trivial
theorem PySem.W.Fast.tw9181024780818708047 : True := trivial
theorem PySem.W.Fast.tw6171955653798238297 : True := trivial
theorem PySem.W.Fast.tw17199776430049087955 : True := trivial
theorem PySem.W.Fast.tw5681594428469371961 : True := trivial
theorem PySem.W.Fast.tw3160801962579615833 : True := trivial
theorem PySem.W.Fast.tw9976035255776223278 : True := trivial
theorem PySem.W.Fast.tw5659412290452553143 : True := trivial
theorem PySem.W.Fast.tw612258652065176018 : True := trivial
theorem PySem.W.Fast.tw8306770925314749360 : True := trivial
theorem PySem.W.Fast.tw15890577163867518144 : True := trivial
theorem PySem.W.Fast.tw6950833190046057111 : True := trivial
theorem PySem.W.Fast.tw15738851620633691571 : True := trivial
theorem PySem.W.Fast.tw9639519327402166339 : True := trivial
theorem PySem.W.Fast.tw15438015267372770110 : True := trivial
theorem PySem.W.Fast.tw17053067924348636268 : True := trivial
theorem PySem.W.Fast.tw16592495244190138078 : True := trivial
theorem PySem.W.Fast.tw8562675165844364364 : True := trivial
theorem PySem.W.Fast.tw14160929282855295261 : True := trivial
theorem PySem.W.Fast.tw15451060152580507070 : True := trivial
theorem PySem.W.Fast.tw5003345123182962601 : True := trivial
theorem PySem.W.Fast.tw8294158973560493248 : True := trivial
theorem PySem.W.Fast.tw8620046649035653926 : True := trivial
theorem PySem.W.Fast.tw14127620423269498069 : True := trivial
theorem PySem.W.Fast.tw9000101496891910691 : True := trivial
theorem PySem.W.Fast.tw13865145202256822686 : True := trivial
theorem PySem.W.Fast.tw16572271153663651184 : True := trivial
theorem PySem.W.Fast.tw2119322839605934149 : True := trivial
theorem PySem.W.Fast.tw6375327998052882295 : True := trivial
theorem PySem.W.Fast.tw1442506387191827045 : True := trivial
theorem PySem.W.Fast.tw14789465656810981186 : True := trivial
theorem PySem.W.Fast.tw11079020394334716479 : True := trivial
theorem PySem.W.Fast.tw17171786325462249036 : True := trivial
theorem PySem.W.Fast.tw1170141062042659796 : True := trivial
theorem PySem.W.Fast.tw14776712071510866060 : True := trivial
theorem PySem.W.Fast.tw14373955722470209483 : True := trivial
open PySem PySem.W PyProof.Rows
set_option maxRecDepth 100000 in
set_option maxHeartbeats 0 in
theorem PySem.Challenge.cw_gapweave_k67_blocks_written_holds : PySem.Challenge.rw_gapweave_k67_blocks_written.Holds := by
  w_on; o_law; z_head; (case hw => w_witness2)
  k_fill
  refine G67.walk (l := PySem.Challenge.rw_gapweave_k67_blocks_written) rfl rfl (fun _ => by kernel_rfl) (fun _ => by kernel_rfl) ?F
  case F =>
    intro w mg fa h KX G hmg
    refine' G67.all_mk KX G hmg ?g_FIRST_SIGN ?g_LAST_SIGN ?g_NO_SIGNS ?l_NO_SIGNS ?g_STEPS ?l_STEPS ?s_STEPS ?l_STEPS0 ?l_STEPS1 ?l_STEPS2 ?g_GAP ?g_LINE_END ?aC_Block ?pg_Block ?hd_Block ?po_Block ?sa_Block ?mk_Block ?kc_Block ?nA_Block_rows ?ii_Block ?aC_WeaveError ?b1_WeaveError ?b2_WeaveError ?b3_WeaveError ?aC_NoBlock ?xi_NoBlock ?y0_NoBlock ?y1_NoBlock ?y2_NoBlock ?y3_NoBlock ?y4_NoBlock ?y5_NoBlock ?y6_NoBlock ?y7_NoBlock ?aC_NoText ?y0_NoText ?y1_NoText ?y2_NoText ?y3_NoText ?y4_NoText ?y5_NoText ?y6_NoText ?y7_NoText ?aC_NoRow ?xi_NoRow ?aC_NoPrices ?aC_NoSign ?aC_NoNote ?u1_NoText ?u2_NoText ?u3_NoText ?kc_NoText ?nA_NoText_line ?w1_WeaveError ?w2_WeaveError ?w3_WeaveError ?ks_NoBlock_WeaveError ?ks_NoText_WeaveError ?ki_NoBlock_NoPrices ?ki_NoBlock_NoSign ?ki_NoBlock_NoNote ?ki_NoText_NoPrices ?ki_NoText_NoSign ?ki_NoText_NoNote ?ki_NoBlock_NoBlock ?ki_NoBlock_NoText ?ki_NoText_NoText ?ki_NoText_NoBlock ?ki_NoBlock_ValueError ?ki_NoText_ValueError ?a0 ?i0 ?l0 ?c0 ?k0 ?a1 ?l1 ?c1 ?k1 ?a2 ?l2 ?c2 ?k2 ?a3 ?l3 ?c3 ?k3 ?a4 ?l4 ?c4 ?k4 ?a5 ?l5 ?c5 ?k5 ?a6 ?l6 ?c6 ?k6 ?a7 ?l7 ?c7 ?k7 ?a8 ?l8 ?c8 ?k8 ?a9 ?l9 ?c9 ?k9 ?a10 ?l10 ?c10 ?k10 ?a11 ?l11 ?c11 ?k11 ?a12 ?l12 ?c12 ?k12 ?a13 ?l13 ?c13 ?k13 ?a14 ?l14 ?c14 ?k14 ?a15 ?l15 ?c15 ?k15 ?a16 ?l16 ?c16 ?k16 ?a17 ?i17 ?l17 ?c17 ?k17 ?a18 ?l18 ?c18 ?k18 ?a19 ?l19 ?c19 ?k19 ?a20 ?l20 ?c20 ?k20 ?a21 ?l21 ?c21 ?k21 ?a22 ?l22 ?c22 ?k22 ?a23 ?l23 ?c23 ?k23 ?a24 ?l24 ?c24 ?k24 ?a25 ?l25 ?c25 ?k25 ?a26 ?l26 ?c26 ?k26 ?a27 ?l27 ?c27 ?k27 ?a28 ?l28 ?c28 ?k28 ?a29 ?l29 ?c29 ?k29 ?a30 ?l30 ?c30 ?k30 ?a31 ?l31 ?c31 ?k31 ?a32 ?l32 ?c32 ?k32 ?a33 ?l33 ?c33 ?k33 ?a34 ?l34 ?c34 ?k34 ?xj_NoText ?zlen ?zord ?zall ?zany ?zisinstance ?zstr ?zlist ?ztuple ?zrange ?zenumerate ?zzip ?zint ?zbool ?zdict ?zmin ?zmax ?zValueError
    (case g_FIRST_SIGN => k_is)
    (case g_LAST_SIGN => k_is)
    (case g_NO_SIGNS => k_is)
    (case l_NO_SIGNS => k_is)
    (case g_STEPS => k_is)
    (case l_STEPS => k_is)
    (case s_STEPS => decide)
    (case l_STEPS0 => k_is)
    (case l_STEPS1 => k_is)
    (case l_STEPS2 => k_is)
    (case g_GAP => k_is)
    (case g_LINE_END => k_is)
    (case aC_Block => k_is)
    (case pg_Block => k_is)
    (case hd_Block => k_is)
    (case po_Block => k_is)
    (case sa_Block => k_is)
    (case mk_Block => k_is)
    (case kc_Block => k_is)
    (case nA_Block_rows => k_is)
    (case ii_Block => kernel_rfl)
    (case aC_WeaveError => k_is)
    (case b1_WeaveError => k_is)
    (case b2_WeaveError => k_is)
    (case b3_WeaveError => k_is)
    (case aC_NoBlock => k_is)
    (case xi_NoBlock => k_exc)
    (case y0_NoBlock => k_is)
    (case y1_NoBlock => k_is)
    (case y2_NoBlock => k_is)
    (case y3_NoBlock => k_is)
    (case y4_NoBlock => k_is)
    (case y5_NoBlock => k_is)
    (case y6_NoBlock => k_is)
    (case y7_NoBlock => k_is)
    (case aC_NoText => k_is)
    (case y0_NoText => k_is)
    (case y1_NoText => k_is)
    (case y2_NoText => k_is)
    (case y3_NoText => k_is)
    (case y4_NoText => k_is)
    (case y5_NoText => k_is)
    (case y6_NoText => k_is)
    (case y7_NoText => k_is)
    (case aC_NoRow => k_is)
    (case xi_NoRow => k_exc)
    (case aC_NoPrices => k_is)
    (case aC_NoSign => k_is)
    (case aC_NoNote => k_is)
    (case u1_NoText => k_is)
    (case u2_NoText => kernel_rfl)
    (case u3_NoText => k_is)
    (case kc_NoText => k_is)
    (case nA_NoText_line => k_is)
    (case w1_WeaveError => kernel_rfl)
    (case w2_WeaveError => kernel_rfl)
    (case w3_WeaveError => kernel_rfl)
    (case ks_NoBlock_WeaveError => k_is)
    (case ks_NoText_WeaveError => k_is)
    (case ki_NoBlock_NoPrices => kit_is)
    (case ki_NoBlock_NoSign => kit_is)
    (case ki_NoBlock_NoNote => kit_is)
    (case ki_NoText_NoPrices => kit_is)
    (case ki_NoText_NoSign => kit_is)
    (case ki_NoText_NoNote => kit_is)
    (case ki_NoBlock_NoBlock => kit_is)
    (case ki_NoBlock_NoText => kit_is)
    (case ki_NoText_NoText => kit_is)
    (case ki_NoText_NoBlock => kit_is)
    (case ki_NoBlock_ValueError => kit_is)
    (case ki_NoText_ValueError => kit_is)
    (case a0 => k_is)
    (case i0 => k_is)
    (case l0 => k_is)
    (case c0 => k_is)
    (case k0 => k_is)
    (case a1 => k_is)
    (case l1 => k_is)
    (case c1 => k_is)
    (case k1 => k_is)
    (case a2 => k_is)
    (case l2 => k_is)
    (case c2 => k_is)
    (case k2 => k_is)
    (case a3 => k_is)
    (case l3 => k_is)
    (case c3 => k_is)
    (case k3 => k_is)
    (case a4 => k_is)
    (case l4 => k_is)
    (case c4 => k_is)
    (case k4 => k_is)
    (case a5 => k_is)
    (case l5 => k_is)
    (case c5 => k_is)
    (case k5 => k_is)
    (case a6 => k_is)
    (case l6 => k_is)
    (case c6 => k_is)
    (case k6 => k_is)
    (case a7 => k_is)
    (case l7 => k_is)
    (case c7 => k_is)
    (case k7 => k_is)
    (case a8 => k_is)
    (case l8 => k_is)
    (case c8 => k_is)
    (case k8 => k_is)
    (case a9 => k_is)
    (case l9 => k_is)
    (case c9 => k_is)
    (case k9 => k_is)
    (case a10 => k_is)
    (case l10 => k_is)
    (case c10 => k_is)
    (case k10 => k_is)
    (case a11 => k_is)
    (case l11 => k_is)
    (case c11 => k_is)
    (case k11 => k_is)
    (case a12 => k_is)
    (case l12 => k_is)
    (case c12 => k_is)
    (case k12 => k_is)
    (case a13 => k_is)
    (case l13 => k_is)
    (case c13 => k_is)
    (case k13 => k_is)
    (case a14 => k_is)
    (case l14 => k_is)
    (case c14 => k_is)
    (case k14 => k_is)
    (case a15 => k_is)
    (case l15 => k_is)
    (case c15 => k_is)
    (case k15 => k_is)
    (case a16 => k_is)
    (case l16 => k_is)
    (case c16 => k_is)
    (case k16 => k_is)
    (case a17 => k_is)
    (case i17 => k_is)
    (case l17 => k_is)
    (case c17 => k_is)
    (case k17 => k_is)
    (case a18 => k_is)
    (case l18 => k_is)
    (case c18 => k_is)
    (case k18 => k_is)
    (case a19 => k_is)
    (case l19 => k_is)
    (case c19 => k_is)
    (case k19 => k_is)
    (case a20 => k_is)
    (case l20 => k_is)
    (case c20 => k_is)
    (case k20 => k_is)
    (case a21 => k_is)
    (case l21 => k_is)
    (case c21 => k_is)
    (case k21 => k_is)
    (case a22 => k_is)
    (case l22 => k_is)
    (case c22 => k_is)
    (case k22 => k_is)
    (case a23 => k_is)
    (case l23 => k_is)
    (case c23 => k_is)
    (case k23 => k_is)
    (case a24 => k_is)
    (case l24 => k_is)
    (case c24 => k_is)
    (case k24 => k_is)
    (case a25 => k_is)
    (case l25 => k_is)
    (case c25 => k_is)
    (case k25 => k_is)
    (case a26 => k_is)
    (case l26 => k_is)
    (case c26 => k_is)
    (case k26 => k_is)
    (case a27 => k_is)
    (case l27 => k_is)
    (case c27 => k_is)
    (case k27 => k_is)
    (case a28 => k_is)
    (case l28 => k_is)
    (case c28 => k_is)
    (case k28 => k_is)
    (case a29 => k_is)
    (case l29 => k_is)
    (case c29 => k_is)
    (case k29 => k_is)
    (case a30 => k_is)
    (case l30 => k_is)
    (case c30 => k_is)
    (case k30 => k_is)
    (case a31 => k_is)
    (case l31 => k_is)
    (case c31 => k_is)
    (case k31 => k_is)
    (case a32 => k_is)
    (case l32 => k_is)
    (case c32 => k_is)
    (case k32 => k_is)
    (case a33 => k_is)
    (case l33 => k_is)
    (case c33 => k_is)
    (case k33 => k_is)
    (case a34 => k_is)
    (case l34 => k_is)
    (case c34 => k_is)
    (case k34 => k_is)
    (case xj_NoText => kernel_rfl)
    (case zlen => k_is)
    (case zord => k_is)
    (case zall => k_is)
    (case zany => k_is)
    (case zisinstance => k_is)
    (case zstr => k_is)
    (case zlist => k_is)
    (case ztuple => k_is)
    (case zrange => k_is)
    (case zenumerate => k_is)
    (case zzip => k_is)
    (case zint => k_is)
    (case zbool => k_is)
    (case zdict => k_is)
    (case zmin => k_is)
    (case zmax => k_is)
    (case zValueError => k_is)

