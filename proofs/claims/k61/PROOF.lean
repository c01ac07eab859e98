import PyProof.Rows.All
import Wide.All
import OpenK.AllK
import Wide.FinOn
import Lean
import PyProof.EqAt
import PyProof.EqKinds
import PyProof.TupleCall
import PyProof.NeKinds
import PySem.Challenge.RW_gapweave_k61_longest_twin
set_option Elab.async false
set_option linter.all false
set_option maxRecDepth 100000
namespace L2
open PySem PySem.Spec PyProof.Rows
abbrev Key := Sum Int Str
def keyIs : Key → Value → Bool
  | .inl k, v => Value.isInt k v
  | .inr x, v => Value.isStrOf x v
def keyH (w : World) : Key → Int
  | .inl k => hashInt k
  | .inr x => hashStr w x
theorem keyIs_shape : ∀ {k : Key} {v : Value}, keyIs k v = true → (∃ i t, k = Sum.inl i ∧ v = Value.int i t) ∨ (∃ x t, k = Sum.inr x ∧ v = Value.str x t)
  | .inl i, v, h => by
    obtain ⟨t, e⟩ := Value.isInt_shape (k := i) (v := v) h
    exact .inl ⟨i, t, rfl, e⟩
  | .inr x, v, h => by
    obtain ⟨t, e⟩ := Value.isStrOf_shape (x := x) (v := v) h
    exact .inr ⟨x, t, rfl, e⟩
theorem key_ll (a b : Int) : decide ((Sum.inl a : Key) = Sum.inl b) = (a == b) := by
  by_cases e : a = b
  · subst e; simp
  · have h : ¬ (Sum.inl a : Key) = Sum.inl b := fun q => e (Sum.inl.inj q)
    rw [decide_eq_false h]
    exact (beq_eq_false_iff_ne.mpr e).symm
theorem key_rr (a b : Str) : decide ((Sum.inr a : Key) = Sum.inr b) = decide (a = b) := by
  by_cases e : a = b
  · subst e; simp
  · have h : ¬ (Sum.inr a : Key) = Sum.inr b := fun q => e (Sum.inr.inj q)
    rw [decide_eq_false h, decide_eq_false e]
theorem key_lr (a : Int) (b : Str) : decide ((Sum.inl a : Key) = Sum.inr b) = false := decide_eq_false (fun q => nomatch q)
theorem key_rl (a : Str) (b : Int) : decide ((Sum.inr a : Key) = Sum.inl b) = false := decide_eq_false (fun q => nomatch q)
def mixKind (prog : Program) (w : World) : PySem.KeyKind prog w Key where
  is := keyIs
  hash := keyH w
  inj := fun v a b ha hb => by
    rcases keyIs_shape ha with ⟨i, t, rfl, rfl⟩ | ⟨x, t, rfl, rfl⟩
    · rcases keyIs_shape hb with ⟨j, u, rfl, e⟩ | ⟨y, u, rfl, e⟩
      · injection e with e1 _; rw [e1]
      · exact nomatch e
    · rcases keyIs_shape hb with ⟨j, u, rfl, e⟩ | ⟨y, u, rfl, e⟩
      · exact nomatch e
      · injection e with e1 _; rw [e1]
  byValue := fun k v h => by
    rcases keyIs_shape h with ⟨i, t, rfl, rfl⟩ | ⟨x, t, rfl, rfl⟩ <;> rfl
  pyHash := fun hv h => by
    rcases keyIs_shape hv with ⟨i, t, rfl, rfl⟩ | ⟨x, t, rfl, rfl⟩
    · exact wpAny_pyHash_int h
    · exact wpAny_pyHash_str h
  eqBool := fun hu hv h => by
    rcases keyIs_shape hu with ⟨i, t, rfl, rfl⟩ | ⟨x, t, rfl, rfl⟩
    · rcases keyIs_shape hv with ⟨j, u, rfl, rfl⟩ | ⟨y, u, rfl, rfl⟩
      · rw [key_ll] at h; exact wpAny_eqBool_int h
      · rw [key_lr] at h; exact SeqAt.EqAt.int_str i t y u _ _ _ _ h
    · rcases keyIs_shape hv with ⟨j, u, rfl, rfl⟩ | ⟨y, u, rfl, rfl⟩
      · rw [key_rl] at h; exact SeqAt.EqAt.str_int x t j u _ _ _ _ h
      · rw [key_rr] at h; exact wpAny_eqBool_str h
  «strs» := fun k x t v h => by
    rcases keyIs_shape h with ⟨i, u, rfl, e⟩ | ⟨y, u, rfl, e⟩
    · exact nomatch e
    · injection e with e1 _
      subst e1
      cases v <;> rfl
end L2
namespace L2
open PySem PySem.Spec PyProof.Rows
inductive V where
  | non | bl (b : Bool) | int (i : Int) | str (x : Str) | byt (b : Array UInt8) | flt (b : UInt64) | ref (a : Addr) | ty (n : String)
  deriving DecidableEq
def RelV : V → Value → Prop
  | .non, u => u = Value.none
  | .bl b, u => u = Value.bool b
  | .int i, u => ∃ t, u = Value.int i t
  | .str x, u => ∃ t, u = Value.str x t
  | .byt b, u => ∃ t, u = Value.bytes b t
  | .flt b, u => ∃ t, u = Value.float b t
  | .ref a, u => u = Value.ref a
  | .ty n, u => u = Value.type n
abbrev Vals : List V → List Value → Prop := Paired RelV
theorem Vals.length {xs : List V} {us : List Value} (r : Vals xs us) : xs.length = us.length := Paired.length r
theorem Vals.get : ∀ {xs : List V} {us : List Value} {i : Nat} {x : V}, Vals xs us → xs[i]? = some x → ∃ u, us[i]? = some u ∧ RelV x u
  | _, _, _, _, .nil, e => by simp at e
  | _, _, 0, _, .cons r _, e => by simp at e; subst e; exact ⟨_, rfl, r⟩
  | _, _, i + 1, x, .cons _ t, e => by
    obtain ⟨u, h1, h2⟩ := Vals.get (i := i) (x := x) t (by simpa using e)
    exact ⟨u, by simpa using h1, h2⟩
theorem Vals.set {x : V} {u : Value} (r : RelV x u) : ∀ {xs : List V} {us : List Value} (i : Nat), Vals xs us → Vals (xs.set i x) (us.set i u)
  | _, _, _, .nil => .nil
  | _, _, 0, .cons _ t => .cons r t
  | _, _, i + 1, .cons q t => .cons q (Vals.set r i t)
theorem Vals.append : ∀ {xs ys : List V} {us ws : List Value}, Vals xs us → Vals ys ws → Vals (xs ++ ys) (us ++ ws)
  | _, _, _, _, .nil, s => s
  | _, _, _, _, .cons r t, s => .cons r (Vals.append t s)
theorem Vals.take : ∀ {xs : List V} {us : List Value} (n : Nat), Vals xs us → Vals (xs.take n) (us.take n)
  | _, _, 0, _ => .nil
  | _, _, _ + 1, .nil => .nil
  | _, _, n + 1, .cons r t => .cons r (Vals.take n t)
theorem Vals.drop : ∀ {xs : List V} {us : List Value} (n : Nat), Vals xs us → Vals (xs.drop n) (us.drop n)
  | _, _, 0, r => r
  | _, _, _ + 1, .nil => .nil
  | _, _, n + 1, .cons _ t => Vals.drop n t
theorem Vals.none_of : ∀ {xs : List V} {us : List Value} {i : Nat}, Vals xs us → xs[i]? = none → us[i]? = none := fun {xs us i} r e => by
  have h1 := r.length
  have h2 : xs.length ≤ i := List.getElem?_eq_none_iff.mp e
  exact List.getElem?_eq_none_iff.mpr (by omega)
def RelO : Option V → Option Value → Prop
  | some v, some u => RelV v u
  | none, none => True
  | _, _ => False
def KV {κ : Type} : List (κ × V) → List (κ × Value) → Prop := Paired fun (p : κ × V) (q : κ × Value) => p.1 = q.1 ∧ RelV p.2 q.2
def kV : Key → V
  | .inl i => .int i
  | .inr x => .str x
inductive HO where
  /-- a list -/
  | lst (xs : List V)
  /-- a tuple (never changes) -/
  | tup (xs : List V)
  /-- a dict whose keys are ints and texts; one whose keys are tuples of ints and texts (the empty one is both) -/
  | dK (kvs : List (Key × V)) | dT (kvs : List (List Key × V))
  /-- a set of ints: its members, its size -/
  | set (S : Int → Bool) (n : Nat)
  /-- an instance of the class at C, its dict at dx, its attributes -/
  | ins (C dx : Addr) (fs : List (Str × V))
  /-- the dict of the instance at x -/
  | own (x : Addr)
  /-- the dict of an exception -/
  | xd (fs : List (Str × V))
  /-- a bound method, f of x -/
  | met (f x : Addr)
  /-- a range object lo, lo + 1, .. below hi -/
  | rng (lo hi : Int)
  /-- a thing that is known to the object (the script; a dict while a loop walks it): read, never written while it is so -/
  | frz (o : Obj) (u : HO)
  /-- a code object's table -/
  | tbl (ps : Array Value)
  /-- any other thing, by what is true of its one object (a def of one's own: SetO a S n := HO.ext fun h => ..) -/
  | ext (φ : Heap → Prop)
abbrev Hp := Addr → Option HO
def upd (H : Hp) (a : Addr) (o : HO) : Hp := fun b => if b = a then some o else H b
theorem upd_same {H : Hp} {a : Addr} {o : HO} : upd H a o a = some o := by unfold upd; rw [if_pos rfl]
theorem upd_ne {H : Hp} {a b : Addr} {o : HO} (h : b ≠ a) : upd H a o b = H b := by unfold upd; rw [if_neg h]
theorem ne_of {H : Hp} {a b : Addr} {o u : HO} (h : H a = some o) (h' : H b = some u) (d : o ≠ u) : a ≠ b := by
  intro e; subst e; rw [h] at h'; exact d (Option.some.inj h')
theorem ne_of_none {H : Hp} {a b : Addr} {o : HO} (h : H a = some o) (h' : H b = none) : a ≠ b := by
  intro e; subst e; rw [h] at h'; cases h'
section
variable (P : Program) (w : World)
def ObjOk (H : Hp) (h : Heap) (a : Addr) : HO → Prop
  | .lst xs => xs.length ≤ sizeLine ∧ ∃ (its : List Value) (n : Nat), Vals xs its ∧ h.get? a = some { cls := .type "list", data := .seq its.toArray n }
  | .tup xs => xs.length ≤ sizeLine ∧ ∃ its : List Value, Vals xs its ∧ IsTup h a its.toArray
  | .dK kvs => kvs.length ≤ sizeLine ∧ (a == sysModules) = false ∧ ∃ vs, KV kvs vs ∧ h.DictOf (mixKind P w) a vs
  | .dT kvs => kvs.length ≤ sizeLine ∧ (a == sysModules) = false ∧ ∃ xs : List (List Key × Addr × Value),
      Paired (fun (p : List Key × V) (q : List Key × Addr × Value) => p.1 = q.1 ∧ H q.2.1 = some (.tup (p.1.map kV)) ∧ RelV p.2 q.2.2) kvs xs ∧
      ∃ o es ep, h.get? a = some o ∧ o.ExactDict ∧ o.data = .dict es ep ∧ es.toList = xs.map (entryOfKey (tupleKind (mixKind P w))) ∧ (xs.map (·.1)).Nodup
  | .set S n => h.SetOf (intKind P w) a S n
  | .ins C dx fs => H dx = some (.own a) ∧ fs.length ≤ 1000 ∧ dx ≠ a ∧ h.get? a = some (PySem.W.instObj C dx) ∧
      ∃ mA, h.Ns1 dx mA ∧ (∀ f, RelO (fs.lookup f) (mA f)) ∧ PySem.Within mA (fs.map (·.1))
  | .own _ => ∃ o, h.get? a = some o
  | .xd fs => ∃ mA, h.Ns1 a mA ∧ ∀ f, RelO (fs.lookup f) (mA f)
  | .rng lo hi => ∃ t u v, h.get? a = some { cls := .type "range", data := .fields #[.int lo t, .int hi u, .int 1 v] }
  | .frz o u => h.get? a = some o ∧ ObjOk H h a u
  | .tbl ps => h.get? a = some { cls := .none, data := .fields ps }
  | .met f x => h.get? a = some (PySem.W.methodObj (.ref f) (.ref x))
  | .ext φ => φ h ∧ (∃ o, h.get? a = some o) ∧ ∀ h1 h2 : Heap, φ h1 → (∀ o, h1.get? a = some o → h2.get? a = some o) → φ h2
def HOk (H : Hp) (h : Heap) : Prop := ∀ a o, H a = some o → ObjOk P w H h a o
end
section
variable {P : Program} {w : World} {H H' : Hp} {h h' : Heap} {a : Addr} {o : HO}
theorem ObjOk.lt (x : ObjOk P w H h a o) : a < h.objs.size := by
  cases o with
  | lst xs => obtain ⟨_, _, _, _, e⟩ := x; exact Heap.lt_size e
  | tup xs => obtain ⟨_, _, _, p⟩ := x; exact p.lt
  | dK kvs => obtain ⟨_, _, _, _, o, _, _, e, _⟩ := x; exact Heap.lt_size e
  | dT kvs => obtain ⟨_, _, _, _, o, _, _, e, _⟩ := x; exact Heap.lt_size e
  | set S n => obtain ⟨o, _, _, _, e, _⟩ := x; exact Heap.lt_size e
  | ins C dx fs => obtain ⟨_, _, _, e, _⟩ := x; exact Heap.lt_size e
  | own y => obtain ⟨_, e⟩ := x; exact Heap.lt_size e
  | xd fs => obtain ⟨_, ⟨_, _, _, e, _⟩, _⟩ := x; exact Heap.lt_size e
  | rng lo hi => obtain ⟨_, _, _, e⟩ := x; exact Heap.lt_size e
  | frz ob u => obtain ⟨e, _⟩ := x; exact Heap.lt_size e
  | tbl ps => exact Heap.lt_size (show h.get? a = some _ from x)
  | met f y => exact Heap.lt_size (show h.get? a = some _ from x)
  | ext φ => obtain ⟨_, ⟨_, e⟩, _⟩ := x; exact Heap.lt_size e
theorem Paired.mapP {α β : Type} {F G : α → β → Prop} : ∀ {l₁ : List α} {l₂ : List β}, Paired F l₁ l₂ → (∀ a b, F a b → G a b) → Paired G l₁ l₂
  | _, _, .nil, _ => .nil
  | _, _, .cons r t, f => .cons (f _ _ r) (Paired.mapP t f)
theorem ObjOk.stay (x : ObjOk P w H h a o) (k : ∀ b u, (b = a ∨ H b = some (.own a)) → h.get? b = some u → h'.get? b = some u)
    (ho : ∀ b, H b = some (.own a) → H' b = some (.own a)) (ht : ∀ b xs, H b = some (.tup xs) → H' b = some (.tup xs)) : ObjOk P w H' h' a o := by
  induction o with
  | lst xs => obtain ⟨z, its, n, r, e⟩ := x; exact ⟨z, its, n, r, k _ _ (.inl rfl) e⟩
  | tup xs => obtain ⟨z, its, r, ob, e, c⟩ := x; exact ⟨z, its, r, ob, k _ _ (.inl rfl) e, c⟩
  | dK kvs => obtain ⟨z, y, vs, r, ob, es, ep, e, c⟩ := x; exact ⟨z, y, vs, r, ob, es, ep, k _ _ (.inl rfl) e, c⟩
  | dT kvs =>
    obtain ⟨z, y, xs, r, ob, es, ep, e, c⟩ := x
    exact ⟨z, y, xs, Paired.mapP r fun p q z => ⟨z.1, ht _ _ z.2.1, z.2.2⟩, ob, es, ep, k _ _ (.inl rfl) e, c⟩
  | set S n => obtain ⟨ob, es, ep, t, e, c⟩ := x; exact ⟨ob, es, ep, t, k _ _ (.inl rfl) e, c⟩
  | ins C dx fs =>
    obtain ⟨d, z, ne, e, mA, ⟨od, es, ep, e2, c⟩, r⟩ := x
    exact ⟨ho _ d, z, ne, k _ _ (.inl rfl) e, mA, ⟨od, es, ep, k _ _ (.inr d) e2, c⟩, r⟩
  | own y => obtain ⟨ob, e⟩ := x; exact ⟨ob, k _ _ (.inl rfl) e⟩
  | xd fs => obtain ⟨mA, ⟨od, es, ep, e, c⟩, r⟩ := x; exact ⟨mA, ⟨od, es, ep, k _ _ (.inl rfl) e, c⟩, r⟩
  | rng lo hi => obtain ⟨t, u, v, e⟩ := x; exact ⟨t, u, v, k _ _ (.inl rfl) e⟩
  | frz ob u ih => obtain ⟨e, q⟩ := x; exact ⟨k _ _ (.inl rfl) e, ih q⟩
  | tbl ps =>
    have e : h.get? a = some { cls := .none, data := .fields ps } := x
    show h'.get? a = some { cls := .none, data := .fields ps }
    exact k a _ (.inl rfl) e
  | met f y =>
    have e : h.get? a = some (PySem.W.methodObj (.ref f) (.ref y)) := x
    show h'.get? a = some (PySem.W.methodObj (.ref f) (.ref y))
    exact k a _ (.inl rfl) e
  | ext φ => obtain ⟨p, ⟨o, e⟩, st⟩ := x; exact ⟨st _ _ p fun o q => k _ _ (.inl rfl) q, ⟨o, k _ _ (.inl rfl) e⟩, st⟩
theorem HOk.lt (x : HOk P w H h) (e : H a = some o) : a < h.objs.size := (x a o e).lt
theorem HOk.fresh (x : HOk P w H h) (e : h.objs.size ≤ a) : H a = none := by
  cases q : H a with
  | none => rfl
  | some u => exact absurd (Nat.lt_of_lt_of_le (x.lt q) e) (Nat.lt_irrefl _)
theorem HOk.kept (x : HOk P w H h) (k : ∀ b u, h.get? b = some u → h'.get? b = some u) : HOk P w H h' := fun a o e =>
  (x a o e).stay (fun b u _ q => k b u q) (fun _ q => q) fun _ _ q => q
theorem HOk.laid (x : HOk P w H h) (k : ∀ b u, h.get? b = some u → h'.get? b = some u) (hp : h.objs.size ≤ a) (new : ObjOk P w (upd H a o) h' a o) : HOk P w (upd H a o) h' := fun b u e => by
  have hn := x.fresh hp
  by_cases hb : b = a
  · subst hb; rw [upd_same] at e; cases e; exact new
  · rw [upd_ne hb] at e
    exact (x b u e).stay (fun c v _ q => k c v q) (fun c q => by rw [upd_ne (ne_of_none q hn)]; exact q) fun c xs q => by rw [upd_ne (ne_of_none q hn)]; exact q
end
def Rd (H : Hp) (a : Addr) (u : HO) : Prop := H a = some u ∨ ∃ o, H a = some (.frz o u)
theorem Rd.ok {P : Program} {w : World} {H : Hp} {h : Heap} {a : Addr} {u : HO} (r : Rd H a u) (x : HOk P w H h) : ObjOk P w H h a u := by
  rcases r with r | ⟨o, r⟩
  · exact x a u r
  · obtain ⟨_, q⟩ := x a _ r
    exact q
def Mut : Option HO → Prop
  | some (.lst _) => True
  | some (.dK _) => True
  | some (.dT _) => True
  | some (.set _ _) => True
  | some (.ins _ _ _) => True
  | some (.ext _) => True
  | _ => False
section
variable {P : Program} {w : World} {H : Hp} {h h' : Heap} {x e : Addr} {o' : HO}
theorem HOk.write (ok : HOk P w H h) (mu : Mut (H x)) (he : e = x ∨ H e = some (.own x)) (k : ∀ b u, b ≠ e → h.get? b = some u → h'.get? b = some u) (heo : ∃ u, h'.get? e = some u)
    (new : ObjOk P w (upd H x o') h' x o') : HOk P w (upd H x o') h' := fun b u q => by
  have nown : ∀ c y, H c = some (.own y) → c ≠ x := fun c y r z => by subst z; rw [r] at mu; exact mu
  have ntup : ∀ c xs, H c = some (.tup xs) → c ≠ x := fun c xs r z => by subst z; rw [r] at mu; exact mu
  by_cases hb : b = x
  · subst hb; rw [upd_same] at q; cases q; exact new
  · rw [upd_ne hb] at q
    by_cases hbe : b = e
    · have q' : H b = some (.own x) := by
        rcases he with z | z
        · exact absurd (hbe.trans z) hb
        · rw [hbe]; exact z
      rw [q] at q'; cases q'
      obtain ⟨v, hv⟩ := heo
      exact ⟨v, by rw [hbe]; exact hv⟩
    · refine (ok b u q).stay (fun c v hc r => k c v ?_ r) (fun c r => by rw [upd_ne (nown c b r)]; exact r) fun c xs r => by rw [upd_ne (ntup c xs r)]; exact r
      rcases hc with rfl | hc
      · exact hbe
      · rintro rfl
        rcases he with z | z
        · exact nown c b hc z
        · rw [hc] at z; cases z; exact hb rfl
end
/-! ### kept unless tracked; of the frames at fs (the callers') the slots may change (an exception that passes writes there); of the records at ex (iterators) nothing is said -/
structure Un (fs ex : List Addr) (H H' : Hp) (h h' : Heap) : Prop where
  keep : ∀ b o, h.get? b = some o → H b = none → b ∉ fs → b ∉ ex → h'.get? b = some o
  slot : ∀ b o, h.get? b = some o → H b = none → b ∈ fs → b ∉ ex → ∃ sl, h'.get? b = some { o with slots := sl }
  free : ∀ b o, h.get? b = some o → H b = none → b ∉ ex → H' b = none
  there : ∀ b o, h.get? b = some o → b ∉ ex → ∃ o', h'.get? b = some o'
  tups : ∀ b xs, H b = some (.tup xs) → H' b = some (.tup xs)
  frzs : ∀ b o u, H b = some (.frz o u) → H' b = some (.frz o u)
  tbls : ∀ b ps, H b = some (.tbl ps) → ∃ more, H' b = some (.tbl (ps ++ more))
section
variable {fs fs' ex ex' : List Addr} {H H1 H2 : Hp} {h h1 h2 h' : Heap} {a x e : Addr} {o : HO}
theorem Un.any (u : Un fs ex H H1 h h1) {b : Addr} {ob : Obj} (q : h.get? b = some ob) (n : H b = none) (hx : b ∉ ex) : ∃ sl, h1.get? b = some { ob with slots := sl } := by
  by_cases hb : b ∈ fs
  · exact u.slot b ob q n hb hx
  · exact ⟨ob.slots, u.keep b ob q n hb hx⟩
theorem Un.kept (k : ∀ b u, h.get? b = some u → h'.get? b = some u) : Un fs ex H H h h' :=
  ⟨fun b ob q _ _ _ => k b ob q, fun b ob q _ _ _ => ⟨ob.slots, k b ob q⟩, fun _ _ _ n _ => n, fun b ob q _ => ⟨ob, k b ob q⟩, fun _ _ q => q, fun _ _ _ q => q, fun _ ps q => ⟨#[], by rw [q]; simp⟩⟩
theorem Un.refl : Un fs ex H H h h := Un.kept fun _ _ q => q
theorem Un.laid (k : ∀ b u, h.get? b = some u → h'.get? b = some u) (hp : h.objs.size ≤ a) (hn : H a = none) : Un fs ex H (upd H a o) h h' where
  keep := fun b u q _ _ _ => k b u q
  slot := fun b u q _ _ _ => ⟨u.slots, k b u q⟩
  free := fun b u q n _ => by rw [upd_ne (Nat.ne_of_lt (Nat.lt_of_lt_of_le (Heap.lt_size q) hp))]; exact n
  there := fun b u q _ => ⟨u, k b u q⟩
  tups := fun b xs q => by rw [upd_ne (ne_of_none q hn)]; exact q
  frzs := fun b u xs q => by rw [upd_ne (ne_of_none q hn)]; exact q
  tbls := fun b ps q => ⟨#[], by rw [upd_ne (ne_of_none q hn), q]; simp⟩
theorem Un.write (mu : Mut (H x)) (he : e = x ∨ H e = some (.own x)) (k : ∀ b u, b ≠ e → h.get? b = some u → h'.get? b = some u) (heo : ∃ u, h'.get? e = some u) : Un fs ex H (upd H x o) h h' := by
  have hx : ∀ b, H b = none → b ≠ x := fun b n z => by subst z; rw [n] at mu; exact mu
  have hb : ∀ b, H b = none → b ≠ e := fun b n z => by
    subst z
    rcases he with r | r
    · exact hx b n r
    · rw [n] at r; cases r
  have hm : ∀ b u, H b = some u → ¬ Mut (some u) → b ≠ x := fun b u q nm z => by subst z; rw [q] at mu; exact nm mu
  refine ⟨fun b u q n _ _ => k b u (hb b n) q, fun b u q n _ _ => ⟨u.slots, k b u (hb b n) q⟩, fun b u q n _ => by rw [upd_ne (hx b n)]; exact n, fun b u q _ => ?_,
    fun b xs q => by rw [upd_ne (hm b _ q fun z => z)]; exact q, fun b u xs q => by rw [upd_ne (hm b _ q fun z => z)]; exact q, fun b ps q => ⟨#[], by rw [upd_ne (hm b _ q fun z => z), q]; simp⟩⟩
  by_cases hbe : b = e
  · subst hbe; exact heo
  · exact ⟨u, k b u hbe q⟩
end
/-! ### the heap without what is tracked -/
def trk (h : Heap) (H : Hp) : List Addr := (List.range h.objs.size).filter fun a => (H a).isSome
def hidT (h : Heap) (H : Hp) : Heap := PySem.W.hideAll h (trk h H)
theorem hidT_size (h : Heap) (H : Hp) : (hidT h H).objs.size = h.objs.size := PySem.W.hideAll_size _ _
theorem hidT_get {h : Heap} {H : Hp} {b : Addr} {o : Obj} (e : h.get? b = some o) (n : H b = none) : (hidT h H).get? b = some o :=
  PySem.W.hideAll_get _ e fun hm => by
    have q : (H b).isSome = true := (List.mem_filter.mp hm).2
    rw [n] at q; simp at q
theorem of_hidT {h : Heap} {H : Hp} {b : Addr} {o : Obj} (e : (hidT h H).get? b = some o) : h.get? b = some o ∧ H b = none := by
  have e' : h.get? b = some o := PySem.W.of_hideAll (trk h H) e
  refine ⟨e', ?_⟩
  cases q : H b with
  | none => rfl
  | some x =>
    have hm : b ∈ trk h H := List.mem_filter.mpr ⟨List.mem_range.mpr (Heap.lt_size e'), by simp [q]⟩
    have z : (hidT h H).get? b = none := PySem.W.hideAll_none (trk h H) hm
    rw [z] at e; cases e
end L2
namespace L2
open PySem PySem.Spec PyProof.Rows
structure Mod (K : PySem.W.Frag) (mg : Str → Option Value) (base : Heap) : Prop where
  kin : K.In base
  glob : base.Ns mainGlobals mg
  blt : ∃ mb, base.Ns builtinsNs mb ∧ ∀ x : Str, x ≠ "__name__" → mb x = bootBuiltins x
  nolimit : base.NoLimit
/-- the context: a def's body (or a comprehension's block) running. base: fixed through the whole law; s₀, H₀: the entry; outer: the frames whose slots others may change (a def's callers); stack: all frames that run;
   ex: iterators that were made ahead of the entry and are walked here (a comprehension's); fn: the names whose cells were made at the entry (a def: all; a comprehension's block: its own); calm: not within an except suite; pn: pins that every state bears; xe: what is wanted of an exception that leaves the code -/
structure Cx where
  prog : Program
  w : World
  K : PySem.W.Frag
  mg : Str → Option Value
  base : Heap
  A : Around
  N : List Str
  s₀ : Shared
  H₀ : Hp
  env : Env
  outer : List Env
  stack : List Env
  ex : List Addr
  fn : Str → Bool
  calm : Bool
  pn : List (Addr × Obj)
  xe : Value → Shared → Prop
def frs (l : List Env) : List Addr := l.filterMap (·.frame)
abbrev Cx.fs (X : Cx) : List Addr := frs X.outer
def Vis (sc : Scope) (x : Str) : Prop := sc.names.lookup x = some .local ∨ sc.names.lookup x = some .cell ∨ sc.names.lookup x = some .free
def Loc (sc : Scope) (x : Str) : Prop := sc.names.lookup x = some .local ∨ sc.names.lookup x = some .cell
def Look (env : Env) (h : Heap) (m : Str → Option Value) (x : Str) (u : Value) : Prop :=
  (env.kindOf x = some .local ∧ m x = some u) ∨ ((env.kindOf x = some .cell ∨ env.kindOf x = some .free) ∧ ∃ c, env.cells.lookup x = some c ∧ h.IsCell c (some u))
structure Cx.Ok (X : Cx) : Prop where
  mod : Mod X.K X.mg X.base
  kind : X.env.scope.kind = .function
  glob : X.env.globals = mainGlobals
  blt : X.env.builtins = builtinsNs
  above : X.s₀.heap.objs.size ≤ X.env.locals
  inj : ∀ x y c, X.env.cells.lookup x = some c → X.env.cells.lookup y = some c → x = y
  has : ∀ x, (X.env.kindOf x = some .cell ∨ X.env.kindOf x = some .free) → ∃ c, X.env.cells.lookup x = some c
  cab : ∀ x c, X.fn x = true → X.env.cells.lookup x = some c → X.s₀.heap.objs.size ≤ c
  hd : X.calm = true → X.A.handled = none
  frames : X.A.frames = some X.stack
  stk : X.stack = X.outer ∨ (X.stack = X.env :: X.outer ∧ X.env.frame = some X.env.locals)
  exf : ∀ b ∈ X.ex, b ≠ X.env.locals ∧ ∀ x c, X.env.cells.lookup x = some c → c ≠ b
  bs : ∀ b o, X.base.get? b = some o → X.s₀.heap.get? b = some o ∧ X.H₀ b = none
  bsz : X.base.objs.size ≤ X.s₀.heap.objs.size
  noex : ∀ b o, X.base.get? b = some o → b ∉ X.ex
  exfs : ∀ b ∈ X.ex, b ∉ X.fs
  funs : X.s₀.heap.FunFrames X.base X.outer
  frf : ∀ b ∈ X.fs, X.H₀ b = none
structure Inv (X : Cx) (pins : List (Addr × Obj)) (σ : List (Option V)) (H : Hp) (s : Shared) : Prop where
  ok : X.Ok
  os : s.os = X.s₀.os
  bare : AllBare s.gens
  base : Un X.fs X.ex X.H₀ H X.s₀.heap s.heap
  loc : ∃ m, s.heap.Ns X.env.locals m ∧ ∀ (i : Nat) (x : Str) (v : V), X.N[i]? = some x → σ[i]? = some (some v) → Vis X.env.scope x → ∃ u, RelV v u ∧ Look X.env s.heap m x u
  cell : ∀ x c, X.env.cells.lookup x = some c → ∃ v, s.heap.IsCell c v
  free : H X.env.locals = none
  freeC : ∀ x c, X.env.cells.lookup x = some c → H c = none
  pin : ∀ p ∈ X.pn ++ pins, s.heap.get? p.1 = some p.2 ∧ H p.1 = none ∧ p.1 ≠ X.env.locals ∧ p.1 ∉ X.fs ∧ ∀ v, p.2.data ≠ .cell v
  hok : HOk X.prog X.w H s.heap
  len : σ.length = X.N.length
section
variable {X : Cx} {pins : List (Addr × Obj)} {σ : List (Option V)} {H H' : Hp} {s : Shared} {h' : Heap}
theorem Cx.Ok.nofr (ok : X.Ok) {b : Addr} {o : Obj} (e : X.base.get? b = some o) : b ∉ X.fs := fun hb => by
  have := (ok.funs.mem hb).1
  rw [e] at this; cases this
theorem Inv.bs (I : Inv X pins σ H s) : ∀ b o, X.base.get? b = some o → s.heap.get? b = some o ∧ H b = none := fun b o e =>
  ⟨I.base.keep b o (I.ok.bs b o e).1 (I.ok.bs b o e).2 (I.ok.nofr e) (I.ok.noex b o e), I.base.free b o (I.ok.bs b o e).1 (I.ok.bs b o e).2 (I.ok.noex b o e)⟩
theorem Inv.bk (I : Inv X pins σ H s) : ∀ b o, X.base.get? b = some o → s.heap.get? b = some o := fun b o e => (I.bs b o e).1
theorem Inv.mod (I : Inv X pins σ H s) : Mod X.K X.mg X.base := I.ok.mod
theorem Inv.kIn (I : Inv X pins σ H s) : X.K.In s.heap := I.ok.mod.kin.keeps I.bk
theorem Inv.nolimit (I : Inv X pins σ H s) : s.heap.NoLimit := I.ok.mod.nolimit.keeps I.bk
theorem Inv.lt (I : Inv X pins σ H s) : X.env.locals < s.heap.objs.size := let ⟨_, hn, _⟩ := I.loc; hn.lt
theorem Inv.sz (I : Inv X pins σ H s) : X.s₀.heap.objs.size ≤ s.heap.objs.size := Nat.le_trans I.ok.above (Nat.le_of_lt I.lt)
theorem Inv.nofs (I : Inv X pins σ H s) {a : Addr} (h : s.heap.objs.size ≤ a) : a ∉ X.fs := fun hb => by
  obtain ⟨_, o, ho, _⟩ := I.ok.funs.mem hb
  exact absurd (Nat.lt_of_lt_of_le (Heap.lt_size ho) (Nat.le_trans I.sz h)) (Nat.lt_irrefl _)
theorem Inv.cne (I : Inv X pins σ H s) : ∀ x c, X.env.cells.lookup x = some c → c ≠ X.env.locals := fun x c e z => by
  obtain ⟨v, o, ho, hd⟩ := I.cell x c e
  obtain ⟨m, ⟨o', es, ep, ho', hd', _⟩, _⟩ := I.loc
  rw [z, ho'] at ho; cases ho; rw [hd'] at hd; cases hd
theorem Inv.funs (I : Inv X pins σ H s) : s.heap.FunFrames X.base X.outer := by
  have all : ∀ (l : List Env), (∀ b ∈ frs l, b ∈ X.fs) → X.s₀.heap.FunFrames X.base l → s.heap.FunFrames X.base l := by
    intro l
    induction l with
    | nil => intro _ _; trivial
    | cons env r ih =>
      intro hs hl
      obtain ⟨hk, ⟨L, o, hf, hn, ho, hd⟩, hr⟩ := hl
      have hL : L ∈ X.fs := hs L (by unfold frs; rw [List.filterMap_cons, hf]; exact List.mem_cons_self)
      obtain ⟨sl, e⟩ := I.base.slot L o ho (I.ok.frf L hL) hL fun z => I.ok.exfs L z hL
      exact ⟨hk, ⟨L, _, hf, hn, e, hd⟩, ih (fun b hb => hs b (by unfold frs; rw [List.filterMap_cons, hf]; exact List.mem_cons_of_mem _ hb)) hr⟩
  exact all X.outer (fun _ hb => hb) I.ok.funs
theorem Inv.stack (I : Inv X pins σ H s) : s.heap.FunFrames X.base X.stack := by
  rcases I.ok.stk with e | ⟨e, hf⟩
  · rw [e]; exact I.funs
  · rw [e]
    obtain ⟨m, hn, _⟩ := I.loc
    refine .cons (by rw [I.ok.kind]; decide) hf hn ?_ I.funs
    exact Heap.get?_none_of_le (Nat.le_trans I.ok.bsz I.ok.above)
theorem Inv.stkSub (I : Inv X pins σ H s) : ∀ b ∈ frs X.stack, b ∈ X.env.locals :: X.fs := fun b hb => by
  rcases I.ok.stk with e | ⟨e, hf⟩
  · rw [e] at hb; exact List.mem_cons_of_mem _ hb
  · rw [e] at hb
    unfold frs at hb
    rw [List.filterMap_cons, hf] at hb
    exact hb
theorem Inv.stkFree (I : Inv X pins σ H s) : ∀ b ∈ frs X.stack, H b = none := fun b hb => by
  rcases List.mem_cons.mp (I.stkSub b hb) with e | hb
  · rw [e]; exact I.free
  · obtain ⟨_, o, ho, _⟩ := I.ok.funs.mem hb
    exact I.base.free b o ho (I.ok.frf b hb) fun z => I.ok.exfs b z hb
theorem Inv.step {g' : Array GenState} {t' : Nat} {d' : Drawn} {ch : List Addr} (I : Inv X pins σ H s)
    (hch : ∀ b ∈ ch, (b ∈ X.ex ∨ X.s₀.heap.objs.size ≤ b) ∧ b ≠ X.env.locals ∧ (∀ x c, X.env.cells.lookup x = some c → c ≠ b) ∧ ∀ p ∈ X.pn ++ pins, p.1 ≠ b)
    (keep : ∀ b o, b ≠ X.env.locals → b ∉ X.fs → b ∉ ch → s.heap.get? b = some o → H b = none → h'.get? b = some o)
    (slot : ∀ b o, b ≠ X.env.locals → b ∈ X.fs → b ∉ ch → s.heap.get? b = some o → H b = none → ∃ sl, h'.get? b = some { o with slots := sl }) (free : ∀ b o, b ∉ ch → s.heap.get? b = some o → H b = none → H' b = none)
    (there : ∀ b o, b ∉ ch → s.heap.get? b = some o → ∃ o', h'.get? b = some o')
    (tups : ∀ b xs, H b = some (.tup xs) → H' b = some (.tup xs)) (frzs : ∀ b o u, H b = some (.frz o u) → H' b = some (.frz o u)) (tbls : ∀ b ps, H b = some (.tbl ps) → ∃ more, H' b = some (.tbl (ps ++ more)))
    (ns : ∀ m, s.heap.Ns X.env.locals m → h'.Ns X.env.locals m) (hok : HOk X.prog X.w H' h') (hg : AllBare g') :
    Inv X pins σ H' { s with heap := h', gens := g', drawn := d', toks := t' } := by
  have neL : ∀ b o, X.s₀.heap.get? b = some o → b ≠ X.env.locals := fun b o e => Nat.ne_of_lt (Nat.lt_of_lt_of_le (Heap.lt_size e) I.ok.above)
  have neC : ∀ b o, X.s₀.heap.get? b = some o → b ∉ X.ex → b ∉ ch := fun b o e hx hb => by
    rcases (hch b hb).1 with z | z
    · exact hx z
    · exact absurd (Nat.lt_of_lt_of_le (Heap.lt_size e) z) (Nat.lt_irrefl _)
  have cellK : ∀ x c, X.env.cells.lookup x = some c → ∀ v, s.heap.IsCell c v → h'.IsCell c v := fun x c e v ⟨o, ho, hd⟩ => by
    have nch : c ∉ ch := fun z => (hch c z).2.2.1 x c e rfl
    by_cases hc : c ∈ X.fs
    · obtain ⟨sl, q⟩ := slot c o (I.cne x c e) hc nch ho (I.freeC x c e)
      exact ⟨_, q, hd⟩
    · exact ⟨o, keep c o (I.cne x c e) hc nch ho (I.freeC x c e), hd⟩
  refine ⟨I.ok, I.os, hg, ⟨fun b o e n hb hx => ?_, fun b o e n hb hx => ?_, fun b o e n hx => ?_, fun b o e hx => ?_, fun b xs e => tups b xs (I.base.tups b xs e), fun b o xs e => frzs b o xs (I.base.frzs b o xs e), fun b ps e => ?_⟩, ?_, fun x c e => ?_, ?_, fun x c e => ?_, fun p hp => ?_, hok, I.len⟩
  · exact keep b o (neL b o e) hb (neC b o e hx) (I.base.keep b o e n hb hx) (I.base.free b o e n hx)
  · obtain ⟨sl, e1⟩ := I.base.slot b o e n hb hx
    obtain ⟨sl', e2⟩ := slot b _ (neL b o e) hb (neC b o e hx) e1 (I.base.free b o e n hx)
    exact ⟨sl', e2⟩
  · obtain ⟨o', e1⟩ := I.base.there b o e hx
    exact free b o' (neC b o e hx) e1 (I.base.free b o e n hx)
  · obtain ⟨o', e1⟩ := I.base.there b o e hx
    exact there b o' (neC b o e hx) e1
  · obtain ⟨m1, e1⟩ := I.base.tbls b ps e
    obtain ⟨m2, e2⟩ := tbls b _ e1
    exact ⟨m1 ++ m2, by rw [e2, Array.append_assoc]⟩
  · obtain ⟨m, hn, hl⟩ := I.loc
    refine ⟨m, ns m hn, fun i x v e1 e2 e3 => ?_⟩
    obtain ⟨u, r, l⟩ := hl i x v e1 e2 e3
    refine ⟨u, r, ?_⟩
    rcases l with l | ⟨k, c, e, z⟩
    · exact .inl l
    · exact .inr ⟨k, c, e, cellK x c e _ z⟩
  · obtain ⟨v, z⟩ := I.cell x c e
    exact ⟨v, cellK x c e v z⟩
  · obtain ⟨m, ⟨o, _, _, ho, _⟩, _⟩ := I.loc
    exact free _ o (fun z => (hch _ z).2.1 rfl) ho I.free
  · obtain ⟨v, o, ho, hd⟩ := I.cell x c e
    exact free c o (fun z => (hch c z).2.2.1 x c e rfl) ho (I.freeC x c e)
  · obtain ⟨e, n, ne, nf, d⟩ := I.pin p hp
    have nch : p.1 ∉ ch := fun z => (hch p.1 z).2.2.2 p hp rfl
    exact ⟨keep p.1 p.2 ne nf nch e n, free p.1 p.2 nch e n, ne, nf, d⟩
theorem Inv.un {t' : Nat} (I : Inv X pins σ H s) (u : Un X.fs [] H H' s.heap h') (hok : HOk X.prog X.w H' h') : Inv X pins σ H' { s with heap := h', toks := t' } := by
  obtain ⟨m, ⟨o, es, ep, ho, r⟩, _⟩ := id I.loc
  obtain ⟨sl, hL⟩ := u.any ho I.free (by simp)
  exact I.step (g' := s.gens) (d' := s.drawn) (ch := []) (fun _ z => nomatch z) (fun b o _ hb _ e n => u.keep b o e n hb (by simp)) (fun b o _ hb _ e n => u.slot b o e n hb (by simp)) (fun b o _ e n => u.free b o e n (by simp)) (fun b o _ e => u.there b o e (by simp)) u.tups u.frzs u.tbls (fun m' hm => by
    obtain ⟨o', es', ep', ho', r'⟩ := hm
    rw [ho] at ho'; cases ho'
    exact ⟨_, es', ep', hL, r'⟩) hok I.bare
theorem Inv.call {g' : Array GenState} {t' : Nat} {d' : Drawn} {ch : List Addr} (I : Inv X pins σ H s) (u : Un (frs X.stack) ch H H' s.heap h') (hok : HOk X.prog X.w H' h') (hg : AllBare g')
    (hch : ∀ b ∈ ch, (b ∈ X.ex ∨ X.s₀.heap.objs.size ≤ b) ∧ b ≠ X.env.locals ∧ (∀ x c, X.env.cells.lookup x = some c → c ≠ b) ∧ ∀ p ∈ X.pn ++ pins, p.1 ≠ b) :
    Inv X pins σ H' { s with heap := h', gens := g', drawn := d', toks := t' } := by
  obtain ⟨m, ⟨o, es, ep, ho, r⟩, _⟩ := id I.loc
  obtain ⟨sl, hL⟩ := u.any ho I.free fun z => (hch _ z).2.1 rfl
  exact I.step (ch := ch) hch (fun b o hL hb hc e n => u.keep b o e n (fun z => (List.mem_cons.mp (I.stkSub b z)).elim hL hb) hc) (fun b o _ _ hc e n => u.any e n hc) (fun b o hc e n => u.free b o e n hc) (fun b o hc e => u.there b o e hc) u.tups u.frzs u.tbls (fun m' hm => by
    obtain ⟨o', es', ep', ho', r'⟩ := hm
    rw [ho] at ho'; cases ho'
    exact ⟨_, es', ep', hL, r'⟩) hok hg
theorem Inv.turned {t' : Nat} {it : Addr} (I : Inv X pins σ H s) (k : ∀ b o, b ≠ it → s.heap.get? b = some o → h'.get? b = some o) (hn : H it = none) (hL : it ≠ X.env.locals)
    (h1 : it ∈ X.ex ∨ X.s₀.heap.objs.size ≤ it) (h2 : ∀ x c, X.env.cells.lookup x = some c → c ≠ it) (h3 : ∀ p ∈ X.pn ++ pins, p.1 ≠ it) : Inv X pins σ H { s with heap := h', toks := t' } := by
  have nit : ∀ b u, H b = some u → b ≠ it := fun b u e z => by rw [z, hn] at e; cases e
  refine I.step (g' := s.gens) (d' := s.drawn) (ch := [it]) (fun b hb => ?_) (fun b o _ _ hc e _ => k b o (fun z => hc (by simp [z])) e) (fun b o _ _ hc e _ => ⟨o.slots, k b o (fun z => hc (by simp [z])) e⟩) (fun _ _ _ _ n => n)
    (fun b o hc e => ⟨o, k b o (fun z => hc (by simp [z])) e⟩) (fun _ _ e => e) (fun _ _ _ e => e) (fun b ps e => ⟨#[], by rw [e]; simp⟩) (fun m hm => ?_) (fun b u e => ?_) I.bare
  · have e : b = it := by simpa using hb
    subst e
    exact ⟨h1, hL, h2, h3⟩
  · obtain ⟨o, es, ep, ho, r⟩ := hm
    exact ⟨o, es, ep, k _ o (Ne.symm hL) ho, r⟩
  · refine (I.hok b u e).stay (fun c v hc q => k c v ?_ q) (fun _ q => q) fun _ _ q => q
    rcases hc with z | z
    · rw [z]; exact nit b u e
    · exact nit c _ z
theorem Inv.tok (I : Inv X pins σ H s) (t : Nat) : Inv X pins σ H { s with toks := t } := I.un (h' := s.heap) (t' := t) Un.refl I.hok
theorem Inv.kept {t' : Nat} (I : Inv X pins σ H s) (k : ∀ b u, s.heap.get? b = some u → h'.get? b = some u) : Inv X pins σ H { s with heap := h', toks := t' } := I.un (Un.kept k) (I.hok.kept k)
theorem Inv.laid {a : Addr} {o : HO} {t' : Nat} (I : Inv X pins σ H s) (k : ∀ b u, s.heap.get? b = some u → h'.get? b = some u) (hp : s.heap.objs.size ≤ a) (new : ObjOk X.prog X.w (upd H a o) h' a o) :
    Inv X pins σ (upd H a o) { s with heap := h', toks := t' } := I.un (Un.laid k hp (I.hok.fresh hp)) (I.hok.laid k hp new)
theorem Inv.write {x e : Addr} {o : HO} {t' : Nat} (I : Inv X pins σ H s) (mu : Mut (H x)) (he : e = x ∨ H e = some (.own x)) (k : ∀ b u, b ≠ e → s.heap.get? b = some u → h'.get? b = some u) (heo : ∃ u, h'.get? e = some u)
    (new : ObjOk X.prog X.w (upd H x o) h' x o) : Inv X pins σ (upd H x o) { s with heap := h', toks := t' } := I.un (Un.write mu he k heo) (I.hok.write mu he k heo new)
theorem Inv.weak {σ' : List (Option V)} (I : Inv X pins σ H s) (hl : σ'.length = σ.length) (w : ∀ (i : Nat) v, σ'[i]? = some (some v) → σ[i]? = some (some v)) : Inv X pins σ' H s :=
  ⟨I.ok, I.os, I.bare, I.base, let ⟨m, hn, hl'⟩ := I.loc; ⟨m, hn, fun i x v e1 e2 e3 => hl' i x v e1 (w i v e2) e3⟩, I.cell, I.free, I.freeC, I.pin, I.hok, hl.trans I.len⟩
theorem Inv.pins_of {pins' : List (Addr × Obj)} (I : Inv X pins σ H s) (h : ∀ p ∈ pins', s.heap.get? p.1 = some p.2 ∧ H p.1 = none ∧ p.1 ≠ X.env.locals ∧ p.1 ∉ X.fs ∧ ∀ v, p.2.data ≠ .cell v) : Inv X pins' σ H s :=
  ⟨I.ok, I.os, I.bare, I.base, I.loc, I.cell, I.free, I.freeC, fun p hp => (List.mem_append.mp hp).elim (fun z => I.pin p (List.mem_append_left _ z)) (h p), I.hok, I.len⟩
theorem nodup_ix {N : List Str} (hN : N.Nodup) {i j : Nat} {x : Str} (a : N[i]? = some x) (b : N[j]? = some x) : i = j := by
  obtain ⟨h1, e1⟩ := List.getElem?_eq_some_iff.mp a
  obtain ⟨h2, e2⟩ := List.getElem?_eq_some_iff.mp b
  exact (List.getElem_inj hN).mp (e1.trans e2.symm)
theorem store_ok2 {M : Model} {A : Around} {E : Value → Shared → Prop} {i : Nat} {x : Str} {v : V} {u : Value} {Q : Unit → Shared → Prop} (I : Inv X pins σ H s) (hN : X.N.Nodup) (hi : X.N[i]? = some x) (hx : Loc X.env.scope x) (r : RelV v u)
    (h : ∀ s', Inv X pins (σ.set i (some v)) H s' → (∃ a, Heap.SameBut a s.heap s'.heap ∧ (a = X.env.locals ∨ X.env.cells.lookup x = some a)) → Q () s') (hf : X.fn x = true ∨ X.env.scope.names.lookup x = some .local := by first | exact .inl rfl | exact .inr rfl | assumption) : wpAny M A (storeName X.env x u) Q E s := by
  obtain ⟨m, hn, hl⟩ := id I.loc
  have hcls : (X.env.scope.kind == .class || (X.env.scope.kind == .module && X.env.locals != X.env.globals)) = false := by rw [I.ok.kind]; rfl
  have hiσ : i < σ.length := by rw [I.len]; exact (List.getElem?_eq_some_iff.mp hi).1
  have cne := I.cne
  have tracked : ∀ {a : Addr} {h' : Heap}, (∃ o, s.heap.get? a = some o ∧ H a = none) → Heap.SameBut a s.heap h' → HOk X.prog X.w H h' := fun {a h'} ha hs b ob e => by
    obtain ⟨_, _, hfree⟩ := ha
    refine (I.hok b ob e).stay (fun c w' hc q => (hs.2 c ?_).trans q) (fun _ q => q) fun _ _ q => q
    rintro rfl
    rcases hc with rfl | hc
    · rw [hfree] at e; cases e
    · rw [hfree] at hc; cases hc
  rcases hx with hk | hk
  · refine wpAny_storeName_local hk hn (fun h' hn' hs => ?_) hcls
    obtain ⟨oL, _, _, hoL, _⟩ := id hn
    refine h _ ⟨I.ok, I.os, I.bare, ⟨fun b o e n hb hx => ?_, fun b o e n hb hx => ?_, I.base.free, fun b o e hx => ?_, I.base.tups, I.base.frzs, I.base.tbls⟩, ⟨_, hn', fun j y v' e1 e2 e3 => ?_⟩, fun y c e => ?_, I.free, I.freeC, fun p hp => ?_, tracked ⟨oL, hoL, I.free⟩ hs, by simpa using I.len⟩ ⟨_, hs, .inl rfl⟩
    · exact (hs.2 b (Nat.ne_of_lt (Nat.lt_of_lt_of_le (Heap.lt_size e) I.ok.above))).trans (I.base.keep b o e n hb hx)
    · obtain ⟨sl, e1⟩ := I.base.slot b o e n hb hx
      exact ⟨sl, (hs.2 b (Nat.ne_of_lt (Nat.lt_of_lt_of_le (Heap.lt_size e) I.ok.above))).trans e1⟩
    · obtain ⟨o', e1⟩ := I.base.there b o e hx
      exact ⟨o', (hs.2 b (Nat.ne_of_lt (Nat.lt_of_lt_of_le (Heap.lt_size e) I.ok.above))).trans e1⟩
    · by_cases hj : j = i
      · subst hj
        rw [hi] at e1; cases e1
        rw [List.getElem?_set_self hiσ] at e2
        cases e2
        exact ⟨u, r, .inl ⟨hk, by simp⟩⟩
      · rw [List.getElem?_set_ne (Ne.symm hj)] at e2
        obtain ⟨u', r', q⟩ := hl j y v' e1 e2 e3
        refine ⟨u', r', ?_⟩
        rcases q with ⟨k, e⟩ | ⟨k, c, e, z⟩
        · refine .inl ⟨k, ?_⟩
          have : y ≠ x := fun e => hj (nodup_ix hN e1 (e ▸ hi))
          simp [this, e]
        · exact .inr ⟨k, c, e, z.sameBut hs (cne y c e)⟩
    · obtain ⟨w', z⟩ := I.cell y c e
      exact ⟨w', z.sameBut hs (cne y c e)⟩
    · obtain ⟨e, n, ne, nf, d⟩ := I.pin p hp
      exact ⟨(hs.2 p.1 ne).trans e, n, ne, nf, d⟩
  · have hfn : X.fn x = true := by
      rcases hf with z | z
      · exact z
      · rw [z] at hk; cases hk
    obtain ⟨c, hc⟩ := I.ok.has x (.inl hk)
    obtain ⟨w', z⟩ := I.cell x c hc
    refine wpAny_storeName_cell I.ok.kind hk hc z (fun h' hc' hs => ?_)
    obtain ⟨oc, hoc, hocd⟩ := id z
    refine h { s with heap := h' } ⟨I.ok, I.os, I.bare, ⟨fun b o e n hb hx => ?_, fun b o e n hb hx => ?_, I.base.free, fun b o e hx => ?_, I.base.tups, I.base.frzs, I.base.tbls⟩, ⟨m, hn.sameBut hs (Ne.symm (cne x c hc)), fun j y v' e1 e2 e3 => ?_⟩, fun y c' e => ?_, I.free, I.freeC, fun p hp => ?_, tracked ⟨oc, hoc, I.freeC x c hc⟩ hs, by simpa using I.len⟩ ⟨c, hs, .inr hc⟩
    · exact (hs.2 b (Nat.ne_of_lt (Nat.lt_of_lt_of_le (Heap.lt_size e) (I.ok.cab x c hfn hc)))).trans (I.base.keep b o e n hb hx)
    · obtain ⟨sl, e1⟩ := I.base.slot b o e n hb hx
      exact ⟨sl, (hs.2 b (Nat.ne_of_lt (Nat.lt_of_lt_of_le (Heap.lt_size e) (I.ok.cab x c hfn hc)))).trans e1⟩
    · obtain ⟨o', e1⟩ := I.base.there b o e hx
      exact ⟨o', (hs.2 b (Nat.ne_of_lt (Nat.lt_of_lt_of_le (Heap.lt_size e) (I.ok.cab x c hfn hc)))).trans e1⟩
    · by_cases hj : j = i
      · subst hj
        rw [hi] at e1; cases e1
        rw [List.getElem?_set_self hiσ] at e2
        cases e2
        exact ⟨u, r, .inr ⟨.inl hk, c, hc, hc'⟩⟩
      · rw [List.getElem?_set_ne (Ne.symm hj)] at e2
        obtain ⟨u', r', q⟩ := hl j y v' e1 e2 e3
        refine ⟨u', r', ?_⟩
        rcases q with q | ⟨k, c', e, z'⟩
        · exact .inl q
        · refine .inr ⟨k, c', e, z'.sameBut hs ?_⟩
          rintro rfl
          exact hj (nodup_ix hN e1 (I.ok.inj _ _ _ e hc ▸ hi))
    · by_cases hcc : c' = c
      · subst hcc; exact ⟨_, hc'⟩
      · obtain ⟨w2, z2⟩ := I.cell y c' e
        exact ⟨w2, z2.sameBut hs hcc⟩
    · obtain ⟨e, n, ne, nf, d⟩ := I.pin p hp
      refine ⟨(hs.2 p.1 ?_).trans e, n, ne, nf, d⟩
      intro q
      rw [q, hoc] at e
      have q' : oc = p.2 := Option.some.inj e
      exact d w' (by rw [← q']; exact hocd)
theorem store_ok {M : Model} {A : Around} {E : Value → Shared → Prop} {i : Nat} {x : Str} {v : V} {u : Value} {Q : Unit → Shared → Prop} (I : Inv X pins σ H s) (hN : X.N.Nodup) (hi : X.N[i]? = some x) (hx : Loc X.env.scope x) (r : RelV v u)
    (h : ∀ s', Inv X pins (σ.set i (some v)) H s' → Q () s') (hf : X.fn x = true ∨ X.env.scope.names.lookup x = some .local := by first | exact .inl rfl | exact .inr rfl | assumption) : wpAny M A (storeName X.env x u) Q E s :=
  store_ok2 I hN hi hx r (fun s' I' _ => h s' I') hf
theorem Inv.call' {s' : Shared} {ch : List Addr} (I : Inv X pins σ H s) (ho : s'.os = s.os) (u : Un (frs X.stack) ch H H' s.heap s'.heap) (hok : HOk X.prog X.w H' s'.heap) (hg : AllBare s'.gens)
    (hch : ∀ b ∈ ch, (b ∈ X.ex ∨ X.s₀.heap.objs.size ≤ b) ∧ b ≠ X.env.locals ∧ (∀ x c, X.env.cells.lookup x = some c → c ≠ b) ∧ ∀ p ∈ X.pn ++ pins, p.1 ≠ b) : Inv X pins σ H' s' := by
  obtain ⟨h', g', d', t', o'⟩ := s'
  have e : o' = s.os := ho
  subst e
  exact I.call (g' := g') (t' := t') (d' := d') u hok hg hch
end
/-! ### the judgements -/
abbrev XK := Value → Option Addr → Hp → Prop
abbrev St := List (Option V)
abbrev VK := V → Hp → Prop
abbrev TE := St → Hp → VK → Prop
abbrev TT := St → Hp → (Bool → Hp → Prop) → Prop
abbrev TA := St → Hp → (List V → Hp → Prop) → Prop
structure Ends where
  nx : St → Hp → Prop
  rt : VK
  bk : St → Hp → Prop := fun _ _ => False
  ct : St → Hp → Prop := fun _ _ => False
abbrev TS := Ends → St → Hp → Prop
def EP (X : Cx) (pins : List (Addr × Obj)) (σ : St) (Q : VK) (u : Value) (s' : Shared) : Prop := ∃ v H', Inv X pins σ H' s' ∧ RelV v u ∧ Q v H'
def TP (X : Cx) (pins : List (Addr × Obj)) (σ : St) (Q : Bool → Hp → Prop) (b : Bool) (s' : Shared) : Prop := ∃ H', Inv X pins σ H' s' ∧ Q b H'
def AP (X : Cx) (pins : List (Addr × Obj)) (σ : St) (Q : List V → Hp → Prop) (us : List Value) (s' : Shared) : Prop := ∃ vs H', Inv X pins σ H' s' ∧ Vals vs us ∧ Q vs H'
def SP (X : Cx) (pins : List (Addr × Obj)) (D : Ends) (f : Flow) (s' : Shared) : Prop :=
  match f with
  | .next => ∃ σ' H', Inv X pins σ' H' s' ∧ D.nx σ' H'
  | .brk => ∃ σ' H', Inv X pins σ' H' s' ∧ D.bk σ' H'
  | .cont => ∃ σ' H', Inv X pins σ' H' s' ∧ D.ct σ' H'
  | .ret u => ∃ v σ' H', Inv X pins σ' H' s' ∧ RelV v u ∧ D.rt v H'
def PE (X : Cx) (e : Expr) (t : TE) : Prop :=
  ∀ (pins : List (Addr × Obj)) (s : Shared) (σ : St) (H : Hp) (Q : VK), Inv X pins σ H s → t σ H Q → wpAny (model X.prog X.w) X.A (eval e X.env) (EP X pins σ Q) X.xe s
def PT (X : Cx) (e : Expr) (t : TT) : Prop :=
  ∀ (pins : List (Addr × Obj)) (s : Shared) (σ : St) (H : Hp) (Q : Bool → Hp → Prop), Inv X pins σ H s → t σ H Q → wpAny (model X.prog X.w) X.A (isTrue e X.env (eval e X.env)) (TP X pins σ Q) X.xe s
def PW (X : Cx) (e : Expr) (t : TT) : Prop :=
  ∀ (whole : Sem Value) (pins : List (Addr × Obj)) (s : Shared) (σ : St) (H : Hp) (Q : Bool → Hp → Prop), Inv X pins σ H s → t σ H Q → wpAny (model X.prog X.w) X.A (isTrue e X.env whole) (TP X pins σ Q) X.xe s
theorem PW.pt {X : Cx} {e : Expr} {t : TT} (h : PW X e t) : PT X e t := h _
def PA (X : Cx) (es : List Expr) (t : TA) : Prop :=
  ∀ (pos : Pos) (pins : List (Addr × Obj)) (s : Shared) (σ : St) (H : Hp) (Q : List V → Hp → Prop), Inv X pins σ H s → t σ H Q → wpAny (model X.prog X.w) X.A (spliced (backTo pos (starEach es X.env))) (AP X pins σ Q) X.xe s
def PS (X : Cx) (st : Stmt) (t : TS) : Prop :=
  ∀ (pins : List (Addr × Obj)) (s : Shared) (σ : St) (H : Hp) (D : Ends), Inv X pins σ H s → t D σ H → wpAny (model X.prog X.w) X.A (exec st X.env) (SP X pins D) X.xe s
def PSs (X : Cx) (st : List Stmt) (t : TS) : Prop :=
  ∀ (pins : List (Addr × Obj)) (s : Shared) (σ : St) (H : Hp) (D : Ends), Inv X pins σ H s → t D σ H → wpAny (model X.prog X.w) X.A (execs st X.env) (SP X pins D) X.xe s
theorem thn {α : Type} {t : Sem α} {Q Q' : α → Shared → Prop} {M : Model} {A : Around} {E : Value → Shared → Prop} {s : Shared} (h : wpAny M A t Q E s) (hQ : ∀ a s, Q a s → Q' a s) : wpAny M A t Q' E s := wpAny_mono h hQ fun _ _ x => x
end L2
namespace L2
open PySem PySem.Spec PyProof.Rows
section
variable {X : Cx}
/-! ### names and constants -/
def tVar (i : Nat) : TE := fun σ H Q => ∃ v, σ[i]? = some (some v) ∧ Q v H
def tC (v : V) : TE := fun _ H Q => Q v H
theorem pe_var {i : Nat} {x : Str} {pos : Pos} (hN : X.N[i]? = some x) (hv : Vis X.env.scope x) (hd : (x == ("__debug__" : Str)) = false := by decide) (hcd : (x == ("__classdict__" : Str)) = false := by decide) : PE X (.Name x pos) (tVar i) := by
  intro pins s σ H Q I h
  obtain ⟨v, e, h⟩ := h
  obtain ⟨m, hn, hl⟩ := I.loc
  obtain ⟨u, r, l⟩ := hl i x v hN e hv
  have fin : EP X pins σ Q u s := ⟨v, H, I, r, h⟩
  rcases l with ⟨hk, hm⟩ | ⟨hk, c, hc, hcell⟩
  · exact wpAny_Name (wpAny_loadName_local I.ok.kind hk hn hm fin) hd
  · rcases hk with hk | hk
    · exact wpAny_Name (wpAny_loadName_cell I.ok.kind hk hc hcell fin) hd
    · exact wpAny_Name (wpAny_loadName_free I.ok.kind hk hc hcell fin hcd) hd
theorem pe_int {i j pos} : PE X (.Constant (.int i) j pos) (tC (.int i)) := fun _ _ _ H _ I h => wpAny_Constant_int ⟨.int i, H, I.tok _, ⟨_, rfl⟩, h⟩
theorem pe_bl {b j pos} : PE X (.Constant (.bool b) j pos) (tC (.bl b)) := fun _ _ _ H _ I h => Constant_bool ⟨.bl b, H, I, rfl, h⟩
theorem pe_non {j pos} : PE X (.Constant .none j pos) (tC .non) := fun _ _ _ H _ I h => Constant_none ⟨.non, H, I, rfl, h⟩
theorem pe_str {x j pos} : PE X (.Constant (.str x) j pos) (tC (.str x)) := fun _ _ _ H _ I h => Calls.Constant_str ⟨.str x, H, I.tok _, ⟨_, rfl⟩, h⟩
def Gl (X : Cx) (x : Str) : Prop := X.env.kindOf x = some .globalImplicit
theorem ld_glob {E : Value → Shared → Prop} {pins : List (Addr × Obj)} {s : Shared} {σ : St} {H : Hp} {x : Str} {u : Value} {pos : Pos} {Q : Value → Shared → Prop} (I : Inv X pins σ H s) (hg : Gl X x) (hm : X.mg x = some u) (h : Q u s)
    (hd : (x == ("__debug__" : Str)) = false := by decide) : wpAny (model X.prog X.w) X.A (eval (.Name x pos) X.env) Q E s :=
  Calls.Name_function_global I.ok.kind hg (Calls.loadGlobal_global (by rw [I.ok.glob]; exact I.mod.glob.keeps I.bk) hm h) hd
theorem ld_blt {E : Value → Shared → Prop} {pins : List (Addr × Obj)} {s : Shared} {σ : St} {H : Hp} {x : Str} {u : Value} {pos : Pos} {Q : Value → Shared → Prop} (I : Inv X pins σ H s) (hg : Gl X x) (hm : X.mg x = none) (hv : bootBuiltins x = some u) (h : Q u s)
    (hn : x ≠ "__name__" := by decide) (hd : (x == ("__debug__" : Str)) = false := by decide) : wpAny (model X.prog X.w) X.A (eval (.Name x pos) X.env) Q E s := by
  obtain ⟨mb, h1, h2⟩ := I.mod.blt
  exact Calls.Name_function_global I.ok.kind hg (Calls.loadGlobal_builtin (by rw [I.ok.glob]; exact I.mod.glob.keeps I.bk) hm (by rw [I.ok.blt]; exact h1.keeps I.bk) ((h2 x hn).trans hv) h) hd
theorem pe_glob {x : Str} {v : V} {u : Value} {pos : Pos} (hg : Gl X x) (hm : X.mg x = some u) (r : RelV v u) (hd : (x == ("__debug__" : Str)) = false := by decide) : PE X (.Name x pos) (tC v) :=
  fun _ _ _ H _ I h => ld_glob I hg hm ⟨v, H, I, r, h⟩ hd
theorem pe_bltn {x : Str} {v : V} {u : Value} {pos : Pos} (hg : Gl X x) (hm : X.mg x = none) (hv : bootBuiltins x = some u) (r : RelV v u) (hn : x ≠ "__name__" := by decide) (hd : (x == ("__debug__" : Str)) = false := by decide) : PE X (.Name x pos) (tC v) :=
  fun _ _ _ H _ I h => ld_blt I hg hm hv ⟨v, H, I, r, h⟩ hn hd
variable {a b : Expr} {ta tb : TE} {pos : Pos}
def tB (t : TE) : TT := fun σ H Q => t σ H fun x H1 => ∃ c, x = .bl c ∧ Q c H1
theorem pt_val {e : Expr} {t : TE} (h : PE X e t) (he : ∀ whole, isTrue e X.env whole = (do let v ← whole; standAt e.pos; holding [v] (truthy v)) := by intro _; rfl) : PT X e (tB t) := by
  intro pins s σ H Q I hw
  refine isTrue_plain (thn (h pins s σ H _ I hw) fun v s1 ⟨x, H1, I1, r1, q1⟩ => ?_) (he _)
  obtain ⟨d, rfl, q⟩ := q1
  cases r1
  exact wpAny_truthy_bool ⟨H1, I1, q⟩
variable {tA tB' : TT} {rest : List Expr}
def tAnd (t u : TT) : TT := fun σ H Q => t σ H fun c H1 => if c = true then u σ H1 Q else Q false H1
def tOr (t u : TT) : TT := fun σ H Q => t σ H fun c H1 => if c = true then Q true H1 else u σ H1 Q
def tNot (t : TT) : TT := fun σ H Q => t σ H fun c H1 => Q (!c) H1
theorem pw_and1 (ha : PT X a tA) : PW X (.BoolOp .And [a] pos) tA := by
  intro wh pins s σ H Q I h
  refine isTrue_and (thn (ha pins s σ H Q I h) fun c s1 e => ?_)
  cases c with
  | true => exact isTrue_and_nil e
  | false => exact e
theorem pw_or1 (ha : PT X a tA) : PW X (.BoolOp .Or [a] pos) tA := by
  intro wh pins s σ H Q I h
  refine isTrue_or (thn (ha pins s σ H Q I h) fun c s1 e => ?_)
  cases c with
  | false => exact isTrue_or_nil e
  | true => exact e
theorem pw_and (ha : PT X a tA) (hb : PW X (.BoolOp .And (b :: rest) pos) tB') : PW X (.BoolOp .And (a :: b :: rest) pos) (tAnd tA tB') := by
  intro wh pins s σ H Q I h
  refine isTrue_and (thn (ha pins s σ H _ I h) fun c s1 ⟨H1, I1, q1⟩ => ?_)
  cases c with
  | true => exact hb wh pins s1 σ H1 Q I1 q1
  | false => exact ⟨H1, I1, q1⟩
theorem pw_or (ha : PT X a tA) (hb : PW X (.BoolOp .Or (b :: rest) pos) tB') : PW X (.BoolOp .Or (a :: b :: rest) pos) (tOr tA tB') := by
  intro wh pins s σ H Q I h
  refine isTrue_or (thn (ha pins s σ H _ I h) fun c s1 ⟨H1, I1, q1⟩ => ?_)
  cases c with
  | true => exact ⟨H1, I1, q1⟩
  | false => exact hb wh pins s1 σ H1 Q I1 q1
theorem pt_not (ha : PT X a tA) : PT X (.UnaryOp .Not a pos) (tNot tA) := by
  intro pins s σ H Q I h
  exact isTrue_not (ha pins s σ H (fun c H1 => Q (!c) H1) I h)
def tAndV (ta tb : TE) : TE := fun σ H Q => ta σ H fun x H1 => ∃ c, x = .bl c ∧ if c = true then tb σ H1 Q else Q (.bl false) H1
def tNotV (ta : TE) : TE := fun σ H Q => ta σ H fun x H1 => ∃ c, x = .bl c ∧ Q (.bl (!c)) H1
theorem pe_one {op} {t : TE} (h : PE X a t) : PE X (.BoolOp op [a] pos) t := fun pins s σ H Q I hw => BoolOp_one (h pins s σ H Q I hw)
theorem pe_and (ha : PE X a ta) (hb : PE X (.BoolOp .And (b :: rest) pos) tb) : PE X (.BoolOp .And (a :: b :: rest) pos) (tAndV ta tb) := by
  intro pins s σ H Q I h
  refine BoolOp_and (thn (ha pins s σ H _ I h) fun v s1 ⟨x, H1, I1, r1, q1⟩ => ?_)
  obtain ⟨c, rfl, q1⟩ := q1
  cases r1
  refine wpAny_truthy_bool ?_
  cases c with
  | true => exact hb pins s1 σ H1 Q I1 q1
  | false => exact ⟨.bl false, H1, I1, rfl, q1⟩
theorem pe_not (ha : PE X a ta) : PE X (.UnaryOp .Not a pos) (tNotV ta) := by
  intro pins s σ H Q I h
  refine UnaryOp_ (thn (ha pins s σ H _ I h) fun v s1 ⟨x, H1, I1, r1, q1⟩ => ?_)
  obtain ⟨c, rfl, q1⟩ := q1
  cases r1
  exact not_of (wpAny_truthy_bool ⟨.bl (!c), H1, I1, rfl, q1⟩)
def tIf (t : TT) (ta tb : TE) : TE := fun σ H Q => t σ H fun c H1 => if c = true then ta σ H1 Q else tb σ H1 Q
theorem pe_ifExp {c : Expr} (hc : PT X c tA) (ha : PE X a ta) (hb : PE X b tb) : PE X (.IfExp c a b pos) (tIf tA ta tb) := by
  intro pins s σ H Q I h
  refine wpAny_IfExp (thn (hc pins s σ H _ I h) fun d s1 ⟨H1, I1, q1⟩ => ?_)
  cases d with
  | true => exact ha pins s1 σ H1 Q I1 q1
  | false => exact hb pins s1 σ H1 Q I1 q1
end
end L2
namespace L2
open PySem PySem.Spec PyProof.Rows
/-! ### a list, a tuple that is read: tracked, frozen, or an object of the module -/
def SqL (K : PySem.W.Frag) (H : Hp) (a : Addr) (xs : List V) : Prop :=
  Rd H a (.lst xs) ∨
    ∃ (o : Obj) (its : Array Value) (n : Nat), K.lookup a = some o ∧ o.cls = .type "list" ∧ o.dict = none ∧ o.data = .seq its n ∧ its.size ≤ sizeLine ∧ Vals xs its.toList
def SqT (K : PySem.W.Frag) (H : Hp) (a : Addr) (xs : List V) : Prop :=
  Rd H a (.tup xs) ∨
    ∃ (o : Obj) (its : Array Value) (n : Nat), K.lookup a = some o ∧ o.cls = .type "tuple" ∧ o.data = .seq its n ∧ its.size ≤ sizeLine ∧ Vals xs its.toList
def absV : Value → Option V
  | .none => some .non
  | .bool b => some (.bl b)
  | .int i _ => some (.int i)
  | .str x _ => some (.str x)
  | .bytes b _ => some (.byt b)
  | .float b _ => some (.flt b)
  | .ref a => some (.ref a)
  | .type n => some (.ty n)
  | _ => none
theorem RelV.abs {x : V} {u : Value} (r : RelV x u) : absV u = some x := by
  cases x with
  | non => cases r; rfl
  | bl _ => cases r; rfl
  | int _ => obtain ⟨t, rfl⟩ := r; rfl
  | str _ => obtain ⟨t, rfl⟩ := r; rfl
  | byt _ => obtain ⟨t, rfl⟩ := r; rfl
  | flt _ => obtain ⟨t, rfl⟩ := r; rfl
  | ref _ => cases r; rfl
  | ty _ => cases r; rfl
theorem RelV.inj {x y : V} {u : Value} (r : RelV x u) (q : RelV y u) : x = y := Option.some.inj (r.abs.symm.trans q.abs)
theorem Vals.inj : ∀ {xs ys : List V} {us : List Value}, Vals xs us → Vals ys us → xs = ys
  | _, _, _, .nil, .nil => rfl
  | _, _, _, .cons r t, .cons r' t' => by rw [r.inj r', Vals.inj t t']
section
variable {X : Cx} {pins : List (Addr × Obj)} {σ : St} {H : Hp} {s : Shared} {a : Addr} {xs ys : List V}
theorem SqL.of {K : PySem.W.Frag} (h : H a = some (.lst xs)) : SqL K H a xs := .inl (.inl h)
theorem SqT.of {K : PySem.W.Frag} (h : H a = some (.tup xs)) : SqT K H a xs := .inl (.inl h)
theorem Inv.list (I : Inv X pins σ H s) (h : SqL X.K H a xs) : ∃ its : List Value, Vals xs its ∧ PlainL s.heap a its.toArray ∧ xs.length ≤ sizeLine := by
  rcases h with h | ⟨o, its, n, hk, hc, hd, hs, hz, r⟩
  · obtain ⟨z, its, n, r, e⟩ := h.ok I.hok
    exact ⟨its, r, ⟨_, n, e, rfl, rfl, rfl⟩, z⟩
  · refine ⟨its.toList, r, ⟨o, n, I.kIn a o hk, hc, hd, by simpa using hs⟩, ?_⟩
    have e := r.length
    simp only [Array.length_toList] at e
    omega
theorem Inv.tuple (I : Inv X pins σ H s) (h : SqT X.K H a xs) : ∃ its : List Value, Vals xs its ∧ IsTup s.heap a its.toArray ∧ xs.length ≤ sizeLine := by
  rcases h with h | ⟨o, its, n, hk, hc, hs, hz, r⟩
  · obtain ⟨z, its, r, p⟩ := h.ok I.hok
    exact ⟨its, r, p, z⟩
  · refine ⟨its.toList, r, ⟨o, I.kIn a o hk, hc, n, by simpa using hs⟩, ?_⟩
    have e := r.length
    simp only [Array.length_toList] at e
    omega
theorem Inv.list_inj (I : Inv X pins σ H s) (h : SqL X.K H a xs) (h' : SqL X.K H a ys) : xs = ys := by
  obtain ⟨its, r, ⟨o, n, e, _, _, d⟩, _⟩ := I.list h
  obtain ⟨its', r', ⟨o', n', e', _, _, d'⟩, _⟩ := I.list h'
  rw [e] at e'; cases e'
  rw [d] at d'
  injection d' with d1 _
  have : its = its' := by simpa using congrArg Array.toList d1
  subst this
  exact r.inj r'
theorem Inv.tuple_inj (I : Inv X pins σ H s) (h : SqT X.K H a xs) (h' : SqT X.K H a ys) : xs = ys := by
  obtain ⟨its, r, ⟨o, e, _, n, d⟩, _⟩ := I.tuple h
  obtain ⟨its', r', ⟨o', e', _, n', d'⟩, _⟩ := I.tuple h'
  rw [e] at e'; cases e'
  rw [d] at d'
  injection d' with d1 _
  have : its = its' := by simpa using congrArg Array.toList d1
  subst this
  exact r.inj r'
end
/-! ### another wish about exceptions -/
abbrev Cx.wish (X : Cx) (E : Value → Shared → Prop) : Cx := { X with xe := E }
abbrev Cx.nox (X : Cx) : Cx := X.wish fun _ _ => False
theorem Cx.Ok.wish {X : Cx} (ok : X.Ok) (E : Value → Shared → Prop) : (X.wish E).Ok :=
  ⟨ok.mod, ok.kind, ok.glob, ok.blt, ok.above, ok.inj, ok.has, ok.cab, ok.hd, ok.frames, ok.stk, ok.exf, ok.bs, ok.bsz, ok.noex, ok.exfs, ok.funs, ok.frf⟩
theorem Cx.Ok.unwish {X : Cx} {E : Value → Shared → Prop} (ok : (X.wish E).Ok) : X.Ok :=
  ⟨ok.mod, ok.kind, ok.glob, ok.blt, ok.above, ok.inj, ok.has, ok.cab, ok.hd, ok.frames, ok.stk, ok.exf, ok.bs, ok.bsz, ok.noex, ok.exfs, ok.funs, ok.frf⟩
section
variable {X : Cx} {pins : List (Addr × Obj)} {σ : St} {H : Hp} {s : Shared} {E : Value → Shared → Prop}
theorem Inv.wish (I : Inv X pins σ H s) (E : Value → Shared → Prop) : Inv (X.wish E) pins σ H s := ⟨I.ok.wish E, I.os, I.bare, I.base, I.loc, I.cell, I.free, I.freeC, I.pin, I.hok, I.len⟩
theorem Inv.unwish (I : Inv (X.wish E) pins σ H s) : Inv X pins σ H s := ⟨I.ok.unwish, I.os, I.bare, I.base, I.loc, I.cell, I.free, I.freeC, I.pin, I.hok, I.len⟩
theorem SP.unwish {D : Ends} {f : Flow} {s' : Shared} (h : SP (X.wish E) pins D f s') : SP X pins D f s' := by
  cases f with
  | next => obtain ⟨σ', H', I, q⟩ := h; exact ⟨σ', H', I.unwish, q⟩
  | brk => obtain ⟨σ', H', I, q⟩ := h; exact ⟨σ', H', I.unwish, q⟩
  | cont => obtain ⟨σ', H', I, q⟩ := h; exact ⟨σ', H', I.unwish, q⟩
  | ret u => obtain ⟨v, σ', H', I, r, q⟩ := h; exact ⟨v, σ', H', I.unwish, r, q⟩
theorem PSs.nox {st : List Stmt} {t : TS} (h : PSs X.nox st t) : PSs X st t := fun pins s σ H D I hw =>
  wpAny_mono (h pins s σ H D (I.wish _) hw) (fun _ _ q => q.unwish) fun _ _ z => False.elim z
end
section
variable {X : Cx} {st : Stmt} {rest : List Stmt} {t u : TS} {e : Expr} {te : TE} {pos : Pos}
def tNext : TS := fun D σ H => D.nx σ H
def tSeq (t u : TS) : TS := fun D σ H => t { D with nx := u D } σ H
theorem pss_nil : PSs X [] tNext := fun _ _ σ H _ I h => wpAny_execs_nil ⟨σ, H, I, h⟩
theorem pss_cons (h1 : PS X st t) (h2 : PSs X rest u) : PSs X (st :: rest) (tSeq t u) := by
  intro pins s σ H D I h
  refine wpAny_execs_cons (thn (h1 pins s σ H { D with nx := u D } I h) fun f s1 q => ?_)
  cases f with
  | next =>
    obtain ⟨σ', H', I', q⟩ := q
    exact h2 pins s1 σ' H' D I' q
  | ret v => exact q
  | brk => exact q
  | cont => exact q
theorem pss_one (h1 : PS X st t) : PSs X [st] t := by
  intro pins s σ H D I h
  refine wpAny_execs_cons (thn (h1 pins s σ H D I h) fun f s1 q => ?_)
  cases f with
  | next => exact wpAny_execs_nil q
  | ret v => exact q
  | brk => exact q
  | cont => exact q
theorem Inv.quiet {pins : List (Addr × Obj)} {σ : St} {H : Hp} {s : Shared} (I : Inv X pins σ H s) : interactive X.env = false := by simp [interactive, I.ok.kind]
def tDrop (te : TE) : TS := fun D σ H => te σ H fun _ H1 => D.nx σ H1
theorem ps_expr (he : PE X e te) (hs : swapsWith e none pos.line X.env = pure false := by rfl) : PS X (.Expr e pos) (tDrop te) := by
  intro pins s σ H D I h
  exact wpAny_Expr_any (thn (he pins s σ H _ I h) fun v s1 ⟨x, H1, I1, r1, q1⟩ => ⟨σ, H1, I1, q1⟩) I.quiet hs
def tRet (te : TE) : TS := fun D σ H => te σ H D.rt
theorem ps_ret (he : PE X e te) : PS X (.Return (some e) pos) (tRet te) := by
  intro pins s σ H D I h
  exact wpAny_Return_some (thn (he pins s σ H _ I h) fun v s1 ⟨x, H1, I1, r1, q1⟩ => ⟨x, σ, H1, I1, r1, q1⟩)
def tIfS (c : TT) (t u : TS) : TS := fun D σ H => c σ H fun b H1 => if b = true then t D σ H1 else u D σ H1
theorem ps_if {c : Expr} {a b : List Stmt} {tc : TT} (hc : PT X c tc) (ha : PSs X a t) (hb : PSs X b u) : PS X (.If c a b pos) (tIfS tc t u) := by
  intro pins s σ H D I h
  refine wpAny_If (thn (hc pins s σ H _ I h) fun d s1 ⟨H1, I1, q1⟩ => ?_)
  cases d with
  | true => exact ha pins s1 σ H1 D I1 q1
  | false => exact hb pins s1 σ H1 D I1 q1
def tNever : TS := fun _ _ _ => False
theorem ps_never : PS X st tNever := fun _ _ _ _ _ _ h => h.elim
theorem pss_never {sts : List Stmt} : PSs X sts tNever := fun _ _ _ _ _ _ h => h.elim
end
/-! ### targets -/
abbrev TG := V → St → Hp → (St → Hp → Prop) → Prop
abbrev TGs := List V → St → Hp → (St → Hp → Prop) → Prop
def PG (X : Cx) (target : Expr) (t : TG) : Prop :=
  ∀ (pins : List (Addr × Obj)) (s : Shared) (σ : St) (H : Hp) (v : V) (u : Value) (Q : St → Hp → Prop), Inv X pins σ H s → RelV v u → t v σ H Q →
    wpAny (model X.prog X.w) X.A (assign target X.env u) (fun _ s' => ∃ σ' H', Inv X pins σ' H' s' ∧ Q σ' H') X.xe s
def PGs (X : Cx) (ts : List Expr) (t : TGs) : Prop :=
  ∀ (pins : List (Addr × Obj)) (s : Shared) (σ : St) (H : Hp) (vs : List V) (us : List Value) (Q : St → Hp → Prop), Inv X pins σ H s → Vals vs us → t vs σ H Q →
    wpAny (model X.prog X.w) X.A (assignInOrder ((assignEach ts X.env).map (·.2)) us) (fun _ s' => ∃ σ' H', Inv X pins σ' H' s' ∧ Q σ' H') X.xe s
abbrev TSet := V → V → V → Hp → (Hp → Prop) → Prop
def PSet (X : Cx) (t : TSet) : Prop :=
  ∀ (pins : List (Addr × Obj)) (s : Shared) (σ : St) (H : Hp) (o i v : V) (ov iv u : Value) (Q : Hp → Prop), Inv X pins σ H s → RelV o ov → RelV i iv → RelV v u → t o i v H Q →
    wpAny (model X.prog X.w) X.A (setItem ov iv u) (fun _ s' => ∃ H', Inv X pins σ H' s' ∧ Q H') X.xe s
section
variable {X : Cx} {pos : Pos}
def gName (i : Nat) : TG := fun v σ H Q => Q (σ.set i (some v)) H
theorem pg_name {i : Nat} {x : Str} (hN : X.N.Nodup) (hi : X.N[i]? = some x) (hx : Loc X.env.scope x) (hf : X.fn x = true ∨ X.env.scope.names.lookup x = some .local := by first | exact .inl rfl | exact .inr rfl | assumption) : PG X (.Name x pos) (gName i) := by
  intro pins s σ H v u Q I r h
  exact wpAny_assign_Name (store_ok I hN hi hx r (fun s' I' => ⟨_, H, I', h⟩) hf)
def gNil : TGs := fun vs σ H Q => vs = [] ∧ Q σ H
def gCons (t : TG) (u : TGs) : TGs := fun vs σ H Q => ∃ v r, vs = v :: r ∧ t v σ H fun σ' H' => u r σ' H' Q
theorem pgs_nil : PGs X [] gNil := by
  intro pins s σ H vs us Q I r h
  obtain ⟨e, h⟩ := h
  subst e
  cases r
  exact assignInOrder_nil ⟨σ, H, I, h⟩
theorem pgs_cons {e : Expr} {es : List Expr} {t : TG} {u : TGs} (h1 : PG X e t) (h2 : PGs X es u)
    (hs : (assignEach (e :: es) X.env).map (·.2) = assign e X.env :: (assignEach es X.env).map (·.2) := by rfl) : PGs X (e :: es) (gCons t u) := by
  intro pins s σ H vs us Q I r h
  obtain ⟨v, vr, e1, h⟩ := h
  subst e1
  cases r with
  | cons r rr =>
    rw [hs]
    refine assignInOrder_cons (thn (h1 pins s σ H _ _ _ I r h) fun _ s1 ⟨σ1, H1, I1, q1⟩ => ?_)
    exact h2 pins s1 σ1 H1 _ _ Q I1 rr q1
def gTup (K : PySem.W.Frag) (n : Nat) (t : TGs) : TG := fun v σ H Q => ∃ a xs, v = .ref a ∧ SqT K H a xs ∧ xs.length = n ∧ t xs σ H Q
theorem pg_tup {es : List Expr} {k : Nat} {t : TGs} {n : Nat} (hc : X.calm = true) (h : PGs X es t)
    (hn : (assignEach es X.env).length = n := by rfl) (hst : (assignEach es X.env).findIdx? (·.1) = none := by rfl) : PG X (.Tuple es k pos) (gTup X.K n t) := by
  intro pins s σ H v u Q I r hw
  obtain ⟨a, xs, e1, hq, hl, hw⟩ := hw
  subst e1
  cases r
  obtain ⟨its, rv, ht, hz⟩ := I.tuple hq
  refine assign_Tuple_tuple (I.ok.hd hc) ht (by simp [hn, ← hl, rv.length]) hst fun h' hx => ?_
  have I1 : Inv X pins σ H { s with heap := h' } := I.kept (t' := s.toks) fun b o e => hx b o (Nat.ne_of_lt (Heap.lt_size e)) e
  exact h pins _ σ H xs _ Q I1 (by simpa using rv) hw
def gSub (to ti : TE) (t : TSet) : TG := fun v σ H Q => to σ H fun o H1 => ti σ H1 fun i H2 => t o i v H2 fun H3 => Q σ H3
theorem pg_sub {o i : Expr} {to ti : TE} {t : TSet} (ho : PE X o to) (hi : PE X i ti) (hs : PSet X t)
    (ha : ∀ v, assign (.Subscript o i pos) X.env v = (do
      let ov ← holding [v] (eval o X.env)
      let iv ← holding [v, ov] (eval i X.env)
      standAt pos
      holding [v, ov, iv] (setItem ov iv v)
      release [v, ov, iv] []) := by intro _; rfl) : PG X (.Subscript o i pos) (gSub to ti t) := by
  intro pins s σ H v u Q I r h
  rw [ha]
  refine wpAny_bind (wpAny_holding (thn (ho pins s σ H _ I h) fun ov s1 ⟨x, H1, I1, r1, q1⟩ => ?_))
  refine wpAny_bind (wpAny_holding (thn (hi pins s1 σ H1 _ I1 q1) fun iv s2 ⟨y, H2, I2, r2, q2⟩ => ?_))
  refine wpAny_bind (wpAny_standAt (wpAny_bind (wpAny_holding (thn (hs pins s2 σ H2 x y v ov iv u _ I2 r1 r2 r q2) fun _ s3 ⟨H3, I3, q3⟩ => ?_))))
  exact wpAny_release ⟨σ, H3, I3, q3⟩
def tAsg (te : TE) (g : TG) : TS := fun D σ H => te σ H fun x H1 => g x σ H1 D.nx
theorem ps_asg {tg e : Expr} {te : TE} {g : TG} (he : PE X e te) (hg : PG X tg g) (hs : swapsWithSole [tg] e pos.line X.env = pure false := by rfl) (hw : swappedStores [tg] e X.env = pure none := by rfl)
    (h1 : (assignEach [tg] X.env).map (·.2) = [assign tg X.env] := by rfl) : PS X (.Assign [tg] e pos) (tAsg te g) := by
  intro pins s σ H D I h
  refine wpAny_Assign_stores (thn (he pins s σ H _ I h) fun v s1 ⟨x, H1, I1, r1, q1⟩ => ?_) hs hw
  rw [h1]
  exact thn (hg pins s1 σ H1 x v _ I1 r1 q1) fun _ s2 q => q
theorem ps_set {i : Nat} {x : Str} {e : Expr} {te : TE} {pos' : Pos} (hN : X.N.Nodup) (hi : X.N[i]? = some x) (hx : Loc X.env.scope x) (he : PE X e te) (hs : swapsWith e (some (.Name x pos')) pos.line X.env = pure false := by rfl) (hf : X.fn x = true ∨ X.env.scope.names.lookup x = some .local := by first | exact .inl rfl | exact .inr rfl | assumption) :
    PS X (.Assign [.Name x pos'] e pos) (tAsg te (gName i)) := by
  intro pins s σ H D I h
  refine wpAny_Assign_Name (thn (he pins s σ H _ I h) fun v s1 ⟨y, H1, I1, r1, q1⟩ => ?_) hs
  exact store_ok I1 hN hi hx r1 (fun s2 I2 => ⟨_, H1, I2, q1⟩) hf
end
section
variable {X : Cx} {pos : Pos}
end
/-! ### what a loop or a comprehension walks -/
structure It where
  go : Nat → Hp → Prop
  yld : Nat → Hp → V → Hp → Prop
  stop : Nat → Hp → Prop
def FpOk (X : Cx) (pins : List (Addr × Obj)) (H : Hp) (b : Addr) : Prop :=
  H b = none ∧ b ≠ X.env.locals ∧ b ∉ X.fs ∧ (b ∈ X.ex ∨ X.s₀.heap.objs.size ≤ b) ∧ (∀ x c, X.env.cells.lookup x = some c → c ≠ b) ∧ ∀ p ∈ X.pn ++ pins, p.1 ≠ b
theorem Inv.fpOk {X : Cx} {pins : List (Addr × Obj)} {σ : St} {H H' : Hp} {s : Shared} {b : Addr} (I : Inv X pins σ H s) (hb : s.heap.objs.size ≤ b) (hn : H' b = none) : FpOk X pins H' b := by
  refine ⟨hn, Nat.ne_of_gt (Nat.lt_of_lt_of_le I.lt hb), I.nofs hb, .inr (Nat.le_trans I.sz hb), fun x c e z => ?_, fun p hp z => ?_⟩
  · obtain ⟨v, q⟩ := I.cell x c e
    exact absurd (Nat.lt_of_lt_of_le q.lt (by rw [z]; exact hb)) (Nat.lt_irrefl _)
  · exact absurd (Nat.lt_of_lt_of_le (Heap.lt_size (I.pin p hp).1) (by rw [z]; exact hb)) (Nat.lt_irrefl _)
structure Turn (P : Program) (w : World) (K : PySem.W.Frag) (tg : Expr) (J : It) (fp : List Addr) (it : Addr) (tn : Nat → Heap → Prop) : Prop where
  mem : it ∈ fp
  obj : ∀ i h, tn i h → ∀ b ∈ fp, ∃ o, h.get? b = some o ∧ ∀ v, o.data ≠ .cell v
  keep : ∀ i h h', tn i h → (∀ b ∈ fp, ∀ o, h.get? b = some o → h'.get? b = some o) → tn i h'
  item : ∀ (X : Cx), X.prog = P → X.w = w → X.K = K → X.calm = true → ∀ (i : Nat) (pins : List (Addr × Obj)) (s : Shared) (σ : St) (H : Hp) (E : Value → Shared → Prop), Inv X pins σ H s → (∀ b ∈ fp, FpOk X pins H b) → tn i s.heap → J.go i H →
    wpAny (model P w) X.A (pyNext (.ref it)) (fun r s1 => ∃ u, r = some u ∧
      wpAny (model P w) X.A (letOwnedTupleGo tg (.ref it) u) (fun _ s2 => ∃ x H', Inv X pins σ H' s2 ∧ RelV x u ∧ J.yld i H x H' ∧ tn (i + 1) s2.heap ∧ ∀ b ∈ fp, H' b = none) E s1) E s
  done : ∀ (X : Cx), X.prog = P → X.w = w → X.K = K → X.calm = true → ∀ (i : Nat) (pins : List (Addr × Obj)) (s : Shared) (σ : St) (H : Hp) (E : Value → Shared → Prop), Inv X pins σ H s → (∀ b ∈ fp, FpOk X pins H b) → tn i s.heap → J.stop i H →
    wpAny (model P w) X.A (pyNext (.ref it)) (fun r s1 => r = none ∧ Inv X pins σ H s1) E s
  self : ∀ (A : Around) (i : Nat) (s : Shared) (Q : Value → Shared → Prop) (E : Value → Shared → Prop), tn i s.heap → Q (.ref it) s → wpAny (model P w) A (pyIter (.ref it)) Q E s
abbrev TI := St → Hp → (It → Hp → Prop) → Prop
def PIE (X : Cx) (pins : List (Addr × Obj)) (σ : St) (tg : Expr) (R : It → Hp → Prop) (itv : Value) (s2 : Shared) : Prop :=
  ∃ (it : Addr) (fp : List Addr) (tn : Nat → Heap → Prop) (J : It) (H' : Hp), itv = .ref it ∧ Inv X pins σ H' s2 ∧ Turn X.prog X.w X.K tg J fp it tn ∧ tn 0 s2.heap ∧ (∀ b ∈ fp, FpOk X pins H' b) ∧ R J H'
def PI (X : Cx) (tg iter : Expr) (wi : TI) : Prop :=
  ∀ (pins : List (Addr × Obj)) (s : Shared) (σ : St) (H : Hp) (R : It → Hp → Prop), Inv X pins σ H s → wi σ H R →
    wpAny (model X.prog X.w) X.A (eval iter X.env) (fun v s1 => wpAny (model X.prog X.w) X.A (pyIter v) (PIE X pins σ tg R) X.xe s1) X.xe s
theorem go_of {M : Model} {A : Around} {E : Value → Shared → Prop} {s : Shared} {tg : Expr} {it : Addr} {u : Value} {o : Obj} {n : String} {vs : Array Value} {Q : Unit → Shared → Prop} (ho : s.heap.get? it = some o) (hc : o.cls = .type n) (hd : o.data = .fields vs)
    (hn : ["enumerate", "zip", "dict_itemiterator", "dict_reverseitemiterator", "odict_iterator", "itertools.zip_longest", "itertools.pairwise"].contains n = false) (hQ : Q () s) : wpAny M A (letOwnedTupleGo tg (.ref it) u) Q E s := by
  unfold letOwnedTupleGo
  cases tg <;> first
    | exact wpAny_pure hQ
    | (cases u <;> first
        | exact wpAny_pure hQ
        | (refine wpAny_bind (wpAny_load ho ?_)
           rw [hc, hd]
           show wpAny M A (if (["enumerate", "zip", "dict_itemiterator", "dict_reverseitemiterator", "odict_iterator", "itertools.zip_longest", "itertools.pairwise"].contains n && vs[0]? == some (rawInt _)) = true then _ else _) Q E s
           rw [if_neg (by intro h; rw [hn, Bool.false_and] at h; cases h)]
           exact wpAny_pure hQ))
def Itl (K : PySem.W.Frag) (a : Addr) : It :=
  ⟨fun i H => ∃ xs x, SqL K H a xs ∧ xs[i]? = some x, fun i H x H' => H' = H ∧ ∀ xs, SqL K H a xs → xs[i]? = some x, fun i H => ∃ xs, SqL K H a xs ∧ xs.length ≤ i⟩
def Itr (lo : Int) (n : Nat) : It := ⟨fun i _ => i < n, fun i H x H' => H' = H ∧ x = .int (lo + i), fun i _ => n ≤ i⟩
theorem turn_list {P : Program} {w : World} {K : PySem.W.Frag} {tg : Expr} (a it : Addr) : Turn P w K tg (Itl K a) [it] it (fun i h => h.IsListIter it a i) where
  mem := by simp
  obj := fun i h st b hb => by
    have e : b = it := by simpa using hb
    subst e
    obtain ⟨o, e, c, d⟩ := st
    exact ⟨o, e, fun v z => by rw [d] at z; cases z⟩
  keep := fun i h h' st k => st.at fun o e => k it (by simp) o e
  item := by
    intro X hP hw hK hc i pins s σ H E I hf st hg
    subst hP hw hK
    obtain ⟨xs, x, hq, hx⟩ := hg
    obtain ⟨its, rv, p, hz⟩ := I.list hq
    obtain ⟨u, hu, ru⟩ := rv.get hx
    obtain ⟨f0, f1, f2, f3, f4, f5⟩ := hf it (by simp)
    refine wpAny_pyNext_list_item st p.isList (x := u) (by simpa using hu) fun h' st' sb => ?_
    have I1 : Inv X pins σ H { s with heap := h' } := I.turned (t' := s.toks) (fun b o hb e => (sb.2 b hb).trans e) f0 f1 f3 f4 f5
    obtain ⟨o, e, c, d⟩ := id st'
    exact ⟨u, rfl, go_of (s := { s with heap := h' }) e c d (by decide) ⟨x, H, I1, ru, ⟨rfl, fun ys hy => by rw [I.list_inj hy hq]; exact hx⟩, st', fun b hb => (hf b hb).1⟩⟩
  done := by
    intro X hP hw hK hc i pins s σ H E I hf st hg
    subst hP hw hK
    obtain ⟨xs, hq, hx⟩ := hg
    obtain ⟨its, rv, p, hz⟩ := I.list hq
    obtain ⟨f0, f1, f2, f3, f4, f5⟩ := hf it (by simp)
    have hl := rv.length
    exact wpAny_pyNext_list_end (I.ok.hd hc) st p.isList (by simp; omega) fun h' eb => ⟨rfl, I.turned (t' := s.toks) (fun b o hb e => eb b o hb e) f0 f1 f3 f4 f5⟩
  self := fun _ _ _ _ _ st h => wpAny_pyIter_listiter st h
theorem turn_range {P : Program} {w : World} {K : PySem.W.Frag} {tg : Expr} (it : Addr) (lo : Int) (n : Nat) : Turn P w K tg (Itr lo n) [it] it (fun i h => IsRangeIter h it (lo + (i : Nat) * 1) ((n : Int) - (i : Nat)) 1) where
  mem := by simp
  obj := fun i h st b hb => by
    have e : b = it := by simpa using hb
    subst e
    exact ⟨_, st, fun v z => by
      have z' : Data.fields _ = Data.cell v := z
      cases z'⟩
  keep := fun i h h' st k => k it (by simp) _ st
  item := by
    intro X hP hw hK hc i pins s σ H E I hf st hg
    subst hP hw hK
    obtain ⟨f0, f1, f2, f3, f4, f5⟩ := hf it (by simp)
    have W := Walks.range (prog := X.prog) (w := X.w) (I.ok.hd hc) it lo 1 n
    refine W.item i s _ _ hg st fun v h' tk hv st' kk => ?_
    obtain ⟨t, rfl⟩ := hv
    have I1 : Inv X pins σ H { s with heap := h', toks := tk } := I.turned (fun b o hb e => kk b o (by simpa using hb) e) f0 f1 f3 f4 f5
    refine ⟨_, rfl, go_of (s := { s with heap := h', toks := tk }) (n := "range_iterator") st' rfl rfl (by decide) ⟨.int (lo + i), H, I1, ⟨t, ?_⟩, ⟨rfl, rfl⟩, st', fun b hb => (hf b hb).1⟩⟩
    rw [Int.mul_one]
  done := by
    intro X hP hw hK hc i pins s σ H E I hf st hg
    subst hP hw hK
    obtain ⟨f0, f1, f2, f3, f4, f5⟩ := hf it (by simp)
    exact wpAny_pyNext_range_end (I.ok.hd hc) st (by have : n ≤ i := hg; omega) fun h' eb => ⟨rfl, I.turned (t' := s.toks) (fun b o hb e => eb b o hb e) f0 f1 f3 f4 f5⟩
  self := fun _ _ _ _ _ st h => wpAny_pyIter_rangeiter st h
end L2
namespace L2
open PySem PySem.Spec PyProof.Rows
section
variable {X : Cx} {tg : Expr}
def iList (K : PySem.W.Frag) (tl : TE) : TI := fun σ H R => tl σ H fun x H1 => ∃ a, x = .ref a ∧ (∃ xs, SqL K H1 a xs) ∧ R (Itl K a) H1
theorem pi_list {l : Expr} {tl : TE} (hl : PE X l tl) : PI X tg l (iList X.K tl) := by
  intro pins s σ H R I h
  refine thn (hl pins s σ H _ I h) fun v s1 ⟨x, H1, I1, r1, q1⟩ => ?_
  obtain ⟨a, e, ⟨xs, hq⟩, q⟩ := q1
  subst e
  cases r1
  obtain ⟨its, rv, p, hz⟩ := I1.list hq
  refine wpAny_pyIter_list p.isList ?_
  refine ⟨s1.heap.objs.size, [s1.heap.objs.size], _, _, H1, rfl, I1.kept (t' := s1.toks) fun b o e => Heap.get?_push_of_some _ e, turn_list a _, ⟨_, Heap.get?_push_size _ rfl, rfl, rfl⟩, fun b hb => ?_, q⟩
  have e : b = s1.heap.objs.size := by simpa using hb
  subst e
  exact I1.fpOk (Nat.le_refl _) (I1.hok.fresh (Nat.le_refl _))
theorem range_it {pins : List (Addr × Obj)} {σ : St} {H : Hp} {s : Shared} {R : It → Hp → Prop} {E : Value → Shared → Prop} {lo hi : Int} {t u v : Tok} {tk : Nat} (I : Inv X pins σ H s) (h1 : -(2 ^ 62) ≤ lo) (h2 : lo < 2 ^ 62) (h3 : -(2 ^ 62) ≤ hi) (h4 : hi < 2 ^ 62)
    (q : R (Itr lo (hi - lo).toNat) H) : wpAny (model X.prog X.w) X.A (pyIter (.ref s.heap.objs.size)) (PIE X pins σ tg R) E { s with heap := s.heap.push { cls := .type "range", data := .fields #[.int lo t, .int hi u, .int 1 v] }, toks := tk } := by
  refine wpAny_pyIter_range (IsRange.new ..) (small_one h1 h2 h3 h4) ?_
  have I1 : Inv X pins σ H { s with heap := s.heap.push { cls := .type "range", data := .fields #[.int lo t, .int hi u, .int 1 v] }, toks := tk } := I.kept fun b o e => Heap.get?_push_of_some _ e
  refine ⟨(s.heap.push { cls := .type "range", data := .fields #[.int lo t, .int hi u, .int 1 v] }).objs.size, [(s.heap.push { cls := .type "range", data := .fields #[.int lo t, .int hi u, .int 1 v] }).objs.size], _, _, H, rfl,
    I1.kept (t' := tk) fun b o e => Heap.get?_push_of_some _ e, turn_range _ lo (hi - lo).toNat, ?_, fun b hb => ?_, q⟩
  · have e1 : lo + ((0 : Nat) : Int) * 1 = lo := by simp
    have e2 : (((hi - lo).toNat : Nat) : Int) - ((0 : Nat) : Int) = Builtin.Range.rangeSize lo hi 1 := by rw [rangeSize_one]; split <;> omega
    show IsRangeIter _ _ (lo + ((0 : Nat) : Int) * 1) ((((hi - lo).toNat : Nat) : Int) - ((0 : Nat) : Int)) 1
    rw [e1, e2]
    exact Heap.get?_push_size _ rfl
  · have e : b = (s.heap.push { cls := .type "range", data := .fields #[.int lo t, .int hi u, .int 1 v] }).objs.size := by simpa using hb
    subst e
    exact I1.fpOk (Nat.le_refl _) (I1.hok.fresh (Nat.le_refl _))
def iRng1 (ta : TA) : TI := fun σ H R => ta σ H fun vs H1 => ∃ j : Int, vs = [.int j] ∧ -(2 ^ 62) ≤ j ∧ j < 2 ^ 62 ∧ R (Itr 0 j.toNat) H1
def iRng2 (ta : TA) : TI := fun σ H R => ta σ H fun vs H1 => ∃ i j : Int, vs = [.int i, .int j] ∧ (-(2 ^ 62) ≤ i ∧ i < 2 ^ 62 ∧ -(2 ^ 62) ≤ j ∧ j < 2 ^ 62) ∧ R (Itr i (j - i).toNat) H1
theorem pi_range1 {a : Expr} {ta : TA} {p pos : Pos} (hg : Gl X "range") (hm : X.mg "range" = none) (ha : PA X [a] ta) (hs : starEach [a] X.env = [(false, eval a X.env)] := by rfl) : PI X tg (.Call (.Name "range" p) [a] [] pos) (iRng1 ta) := by
  intro pins s σ H R I h
  refine Call_ (ld_blt I hg hm boot_range (PyProof.Rows.callWith_type1 (thn (ha pos pins s σ H _ I h) fun us s1 ⟨vs, H1, I1, r1, q1⟩ => ?_) hs rfl))
  obtain ⟨j, e, q1, q2, q⟩ := q1
  subst e
  cases r1 with
  | cons r rr =>
    cases rr
    obtain ⟨t, rfl⟩ := r
    exact call_range_1 (range_it I1 (by omega) (by omega) q1 q2 (by simpa using q))
theorem pi_range2 {a b : Expr} {ta : TA} {p pos : Pos} (hg : Gl X "range") (hm : X.mg "range" = none) (ha : PA X [a, b] ta) (hs : starEach [a, b] X.env = [(false, eval a X.env), (false, eval b X.env)] := by rfl) (hs2 : starEach [b] X.env = [(false, eval b X.env)] := by rfl) :
    PI X tg (.Call (.Name "range" p) [a, b] [] pos) (iRng2 ta) := by
  intro pins s σ H R I h
  refine Call_ (ld_blt I hg hm boot_range (PyProof.Rows.callWith_type1 (thn (ha pos pins s σ H _ I h) fun us s1 ⟨vs, H1, I1, r1, q1⟩ => ?_) (by rw [hs, hs2]) (by rw [hs2]; rfl)))
  obtain ⟨i, j, e, ⟨q1, q2, q3, q4⟩, q⟩ := q1
  subst e
  cases r1 with
  | cons r rr =>
    cases rr with
    | cons r' rr =>
      cases rr
      obtain ⟨t, rfl⟩ := r
      obtain ⟨t', rfl⟩ := r'
      exact call_range_2 (range_it I1 q1 q2 q3 q4 q)
/-! ### for -/
def tFor (wi : TI) (g : TG) (tb : TS) : TS := fun D σ H => wi σ H fun J H1 => ∃ W : Nat → Nat → St → Hp → Prop, (∃ m, W 0 m σ H1) ∧ ∀ i m σ H, W i m σ H →
  (J.stop i H ∧ D.nx σ H) ∨ (J.go i H ∧ ∃ N : St → Hp → Prop, (∀ σ' H', N σ' H' → ∃ m', m' < m ∧ W (i + 1) m' σ' H') ∧ ∀ x H', J.yld i H x H' → g x σ H' fun σ2 H2 => tb { D with nx := N, ct := N, bk := D.nx } σ2 H2)
def pinsAt (fp : List Addr) (h : Heap) : List (Addr × Obj) := fp.filterMap fun b => (h.get? b).map fun o => (b, o)
theorem mem_pinsAt {fp : List Addr} {h : Heap} {b : Addr} {o : Obj} (hb : b ∈ fp) (e : h.get? b = some o) : (b, o) ∈ pinsAt fp h := List.mem_filterMap.mpr ⟨b, hb, by rw [e]; rfl⟩
theorem of_pinsAt {fp : List Addr} {h : Heap} {p : Addr × Obj} (hp : p ∈ pinsAt fp h) : p.1 ∈ fp ∧ h.get? p.1 = some p.2 := by
  obtain ⟨b, hb, e⟩ := List.mem_filterMap.mp hp
  cases q : h.get? b with
  | none => rw [q] at e; cases e
  | some o =>
    rw [q] at e
    have e' : (b, o) = p := Option.some.inj e
    subst e'
    exact ⟨hb, q⟩
theorem Inv.pinned {pins : List (Addr × Obj)} {σ : St} {H : Hp} {s : Shared} {fp : List Addr} (I : Inv X pins σ H s) (hf : ∀ b ∈ fp, FpOk X pins H b) (ho : ∀ b ∈ fp, ∃ o, s.heap.get? b = some o ∧ ∀ v, o.data ≠ .cell v) : Inv X (pins ++ pinsAt fp s.heap) σ H s :=
  I.pins_of fun p hp => (List.mem_append.mp hp).elim (fun z => I.pin p (List.mem_append_right _ z)) fun z => by
    obtain ⟨hb, e⟩ := of_pinsAt z
    obtain ⟨f0, f1, f2, _⟩ := hf p.1 hb
    obtain ⟨o, e', d⟩ := ho p.1 hb
    rw [e] at e'; cases e'
    exact ⟨e, f0, f1, f2, d⟩
theorem Inv.unpinned {pins pl : List (Addr × Obj)} {σ : St} {H : Hp} {s : Shared} (I : Inv X (pins ++ pl) σ H s) : Inv X pins σ H s := I.pins_of fun p hp => I.pin p (List.mem_append_right _ (List.mem_append_left _ hp))
theorem ps_for {iter : Expr} {body : List Stmt} {wi : TI} {g : TG} {tb : TS} {pos : Pos} (hp : PassesOwn (model X.prog X.w) X.A X.env X.xe) (hc : X.calm = true) (hi : PI X tg iter wi) (hg : PG X tg g) (hb : PSs X body tb)
    (hs : ∀ x, foldedSetIterable iter X.env x = pure x := by intro _; rfl) : PS X (.For tg iter body [] pos) (tFor wi g tb) := by
  intro pins s σ H D I h
  refine wpAny_For (thn (hi pins s σ H _ I h) fun v s1 h1 => thn h1 fun itv s2 h2 => ?_) hs
  obtain ⟨it, fp, tn, J, H2, e, I2, T, st2, f2, W, ⟨m0, w0⟩, turn⟩ := h2
  subst e
  -- what stays true of the iterator's objects through the loop
  have stat : ∀ {H' : Hp}, (∀ b ∈ fp, H' b = none) → ∀ b ∈ fp, FpOk X pins H' b := fun hn b hb => ⟨hn b hb, (f2 b hb).2⟩
  refine codeAny_forLoop_any (fun n s' => ∃ i σ' H', Inv X pins σ' H' s' ∧ tn i s'.heap ∧ (∀ b ∈ fp, H' b = none) ∧ W i n σ' H') ?_ m0 ⟨0, σ, H2, I2, st2, fun b hb => (f2 b hb).1, w0⟩
  rintro n s3 ⟨i, σ3, H3, I3, st3, fr3, w3⟩
  rcases turn i n σ3 H3 w3 with ⟨stop, qn⟩ | ⟨go, N, hN, step⟩
  · refine wpAny_passesOwn hp (thn (T.done X rfl rfl rfl hc i pins s3 σ3 H3 X.xe I3 (stat fr3) st3 stop) fun r s4 ⟨hr, I4⟩ => ?_)
    subst hr
    exact wpAny_execs_nil ⟨σ3, H3, I4, qn⟩
  · refine wpAny_passesOwn hp (thn (T.item X rfl rfl rfl hc i pins s3 σ3 H3 X.xe I3 (stat fr3) st3 go) fun r s4 ⟨u, hr, h4⟩ => ?_)
    subst hr
    refine wpAny_passesOwn hp (thn h4 fun _ s5 ⟨x, H5, I5, r5, y5, st5, fr5⟩ => ?_)
    have I5' := I5.pinned (stat fr5) (T.obj _ _ st5)
    refine wpAny_passesOwn hp (thn (hg _ s5 σ3 H5 x u _ I5' r5 (step x H5 y5)) fun _ s6 ⟨σ6, H6, I6, q6⟩ => ?_)
    refine wpAny_passesOwn hp (thn (hb _ s6 σ6 H6 _ I6 q6) fun f s7 q7 => ?_)
    have again : ∀ {σ7 : St} {H7 : Hp}, Inv X (pins ++ pinsAt fp s5.heap) σ7 H7 s7 → N σ7 H7 → ∃ m, m < n ∧ ∃ i σ' H', Inv X pins σ' H' s7 ∧ tn i s7.heap ∧ (∀ b ∈ fp, H' b = none) ∧ W i m σ' H' := fun {σ7 H7} I7 n7 => by
      obtain ⟨m', hm, w7⟩ := hN σ7 H7 n7
      refine ⟨m', hm, i + 1, σ7, H7, I7.unpinned, T.keep _ _ _ st5 fun b hb o e => (I7.pin (b, o) (List.mem_append_right _ (List.mem_append_right _ (mem_pinsAt hb e)))).1, fun b hb => ?_, w7⟩
      obtain ⟨o, e, d⟩ := T.obj _ _ st5 b hb
      exact (I7.pin (b, o) (List.mem_append_right _ (List.mem_append_right _ (mem_pinsAt hb e)))).2.1
    cases f with
    | next => obtain ⟨σ7, H7, I7, n7⟩ := q7; exact again I7 n7
    | cont => obtain ⟨σ7, H7, I7, n7⟩ := q7; exact again I7 n7
    | brk => obtain ⟨σ7, H7, I7, q7⟩ := q7; exact ⟨σ7, H7, I7.unpinned, q7⟩
    | ret v => obtain ⟨x7, σ7, H7, I7, r7, q7⟩ := q7; exact ⟨x7, σ7, H7, I7.unpinned, r7, q7⟩
end
/-! ### the forms one uses -/
theorem for_list {K : PySem.W.Frag} {a : Addr} {xs : List V} {g : TG} {tb : TS} {D : Ends} {σ : St} {H : Hp} (Pv : Nat → St → Hp → Prop) (h0 : Pv 0 σ H) (hl : ∀ i σ H, i ≤ xs.length → Pv i σ H → SqL K H a xs)
    (hs : ∀ i x σ H, xs[i]? = some x → Pv i σ H → g x σ H fun σ2 H2 => tb { D with nx := Pv (i + 1), ct := Pv (i + 1), bk := D.nx } σ2 H2) (hd : ∀ σ H, Pv xs.length σ H → D.nx σ H) :
    ∃ W : Nat → Nat → St → Hp → Prop, (∃ m, W 0 m σ H) ∧ ∀ i m σ H, W i m σ H →
      ((Itl K a).stop i H ∧ D.nx σ H) ∨ ((Itl K a).go i H ∧ ∃ N : St → Hp → Prop, (∀ σ' H', N σ' H' → ∃ m', m' < m ∧ W (i + 1) m' σ' H') ∧ ∀ x H', (Itl K a).yld i H x H' → g x σ H' fun σ2 H2 => tb { D with nx := N, ct := N, bk := D.nx } σ2 H2) := by
  refine ⟨fun i m σ H => m = xs.length - i ∧ i ≤ xs.length ∧ Pv i σ H, ⟨xs.length, by simp, Nat.zero_le _, h0⟩, ?_⟩
  rintro i m σ H ⟨rfl, hi, p⟩
  have q := hl i σ H hi p
  by_cases hlt : i < xs.length
  · refine .inr ⟨⟨xs, xs[i], q, by simp [hlt]⟩, Pv (i + 1), fun σ' H' p' => ⟨xs.length - (i + 1), by omega, rfl, hlt, p'⟩, fun x H' y => ?_⟩
    obtain ⟨e, y⟩ := y
    subst e
    exact hs i x σ _ (y xs q) p
  · have e : i = xs.length := by omega
    subst e
    exact .inl ⟨⟨xs, q, Nat.le_refl _⟩, hd σ H p⟩
theorem for_range {lo : Int} {n : Nat} {g : TG} {tb : TS} {D : Ends} {σ : St} {H : Hp} (Pv : Nat → St → Hp → Prop) (h0 : Pv 0 σ H)
    (hs : ∀ i σ H, i < n → Pv i σ H → g (.int (lo + i)) σ H fun σ2 H2 => tb { D with nx := Pv (i + 1), ct := Pv (i + 1), bk := D.nx } σ2 H2) (hd : ∀ σ H, Pv n σ H → D.nx σ H) :
    ∃ W : Nat → Nat → St → Hp → Prop, (∃ m, W 0 m σ H) ∧ ∀ i m σ H, W i m σ H →
      ((Itr lo n).stop i H ∧ D.nx σ H) ∨ ((Itr lo n).go i H ∧ ∃ N : St → Hp → Prop, (∀ σ' H', N σ' H' → ∃ m', m' < m ∧ W (i + 1) m' σ' H') ∧ ∀ x H', (Itr lo n).yld i H x H' → g x σ H' fun σ2 H2 => tb { D with nx := N, ct := N, bk := D.nx } σ2 H2) := by
  refine ⟨fun i m σ H => m = n - i ∧ i ≤ n ∧ Pv i σ H, ⟨n, by simp, Nat.zero_le _, h0⟩, ?_⟩
  rintro i m σ H ⟨rfl, hi, p⟩
  by_cases hlt : i < n
  · refine .inr ⟨hlt, Pv (i + 1), fun σ' H' p' => ⟨n - (i + 1), by omega, rfl, hlt, p'⟩, fun x H' y => ?_⟩
    obtain ⟨e, y⟩ := y
    subst e y
    exact hs i σ _ hlt p
  · have e : i = n := by omega
    subst e
    exact .inl ⟨Nat.le_refl _, hd σ H p⟩
end L2
namespace L2
open PySem PySem.Spec PyProof.Rows
abbrev R2 := V → V → Hp → VK → Prop
def OpR (X : Cx) (f : Value → Value → Sem Value) (r : R2) : Prop :=
  ∀ (pins : List (Addr × Obj)) (s : Shared) (σ : St) (H : Hp) (x y : V) (v u : Value) (Q : VK), Inv X pins σ H s → RelV x v → RelV y u → r x y H Q →
    wpAny (model X.prog X.w) X.A (f v u) (EP X pins σ Q) X.xe s
def UnR (X : Cx) (f : Value → Sem Value) (r : V → Hp → VK → Prop) : Prop :=
  ∀ (pins : List (Addr × Obj)) (s : Shared) (σ : St) (H : Hp) (x : V) (v : Value) (Q : VK), Inv X pins σ H s → RelV x v → r x H Q →
    wpAny (model X.prog X.w) X.A (f v) (EP X pins σ Q) X.xe s
def CallR (X : Cx) (f : Value) (r : List V → Hp → VK → Prop) : Prop :=
  ∀ (pins : List (Addr × Obj)) (s : Shared) (σ : St) (H : Hp) (xs : List V) (us : List Value) (Q : VK), Inv X pins σ H s → Vals xs us → r xs H Q →
    wpAny (model X.prog X.w) X.A (call f us) (EP X pins σ Q) X.xe s
def tOp (r : R2) (ta tb : TE) : TE := fun σ H Q => ta σ H fun x H1 => tb σ H1 fun y H2 => r x y H2 Q
def tUn (r : V → Hp → VK → Prop) (ta : TE) : TE := fun σ H Q => ta σ H fun x H1 => r x H1 Q
def rI (C : Int → Int → Prop) (g : Int → Int → V) : R2 := fun x y H Q => ∃ i j, x = .int i ∧ y = .int j ∧ C i j ∧ Q (g i j) H
def rI0 (g : Int → Int → V) : R2 := fun x y H Q => ∃ i j, x = .int i ∧ y = .int j ∧ Q (g i j) H
def rU (g : Int → V) : V → Hp → VK → Prop := fun x H Q => ∃ i, x = .int i ∧ Q (g i) H
section
variable {X : Cx} {a b c : Expr} {ta tb tc : TE} {pos : Pos}
theorem binT (ha : PE X a ta) (hb : PE X b tb) {pins : List (Addr × Obj)} {s : Shared} {σ : St} {H : Hp} {R : V → V → Hp → Prop} (I : Inv X pins σ H s)
    (h : ta σ H fun x H1 => tb σ H1 fun y H2 => R x y H2) {Q : Value → Shared → Prop} {f : Value → Value → Sem Value}
    (hf : ∀ v u s2 x y H2, Inv X pins σ H2 s2 → RelV x v → RelV y u → R x y H2 → wpAny (model X.prog X.w) X.A (f v u) Q X.xe s2) :
    wpAny (model X.prog X.w) X.A (eval a X.env) (fun v s₁ => wpAny (model X.prog X.w) X.A (eval b X.env) (fun u s₂ => wpAny (model X.prog X.w) X.A (f v u) Q X.xe s₂) X.xe s₁) X.xe s := by
  refine thn (ha pins s σ H _ I h) fun v s1 ⟨x, H1, I1, r1, q1⟩ => ?_
  refine thn (hb pins s1 σ H1 _ I1 q1) fun u s2 ⟨y, H2, I2, r2, q2⟩ => ?_
  exact hf v u s2 x y H2 I2 r1 r2 q2
theorem pe_op {op : Operator} {r : R2} (ho : OpR X (binaryOp op) r) (ha : PE X a ta) (hb : PE X b tb) : PE X (.BinOp a op b pos) (tOp r ta tb) := by
  intro pins s σ H Q I h
  exact wpAny_BinOp (binT ha hb I h fun v u s2 x y H2 I2 rx ry q => ho pins s2 σ H2 x y v u Q I2 rx ry q)
theorem pe_un {op : UnaryOp} {r : V → Hp → VK → Prop} (ho : UnR X (unaryOp op) r) (ha : PE X a ta) : PE X (.UnaryOp op a pos) (tUn r ta) := by
  intro pins s σ H Q I h
  exact UnaryOp_ (thn (ha pins s σ H _ I h) fun v s1 ⟨x, H1, I1, r1, q1⟩ => ho pins s1 σ H1 x v Q I1 r1 q1)
/-! ### ints -/
theorem opI {f : Value → Value → Sem Value} {C : Int → Int → Prop} {g : Int → Int → Int}
    (rule : ∀ (i j : Int) (t u : Tok) (s : Shared) (Q : Value → Shared → Prop) (E : Value → Shared → Prop), C i j → Q (.int (g i j) s.toks) { s with toks := s.toks + 1 } → wpAny (model X.prog X.w) X.A (f (.int i t) (.int j u)) Q E s) :
    OpR X f (rI C fun i j => .int (g i j)) := by
  intro pins s σ H x y v u Q I rx ry h
  obtain ⟨i, j, rfl, rfl, hc, q⟩ := h
  obtain ⟨t, rfl⟩ := rx
  obtain ⟨t', rfl⟩ := ry
  exact rule i j t t' s _ _ hc ⟨.int (g i j), H, I.tok _, ⟨_, rfl⟩, q⟩
theorem opI0 {f : Value → Value → Sem Value} {g : Int → Int → Int}
    (rule : ∀ (i j : Int) (t u : Tok) (s : Shared) (Q : Value → Shared → Prop) (E : Value → Shared → Prop), Q (.int (g i j) s.toks) { s with toks := s.toks + 1 } → wpAny (model X.prog X.w) X.A (f (.int i t) (.int j u)) Q E s) :
    OpR X f (rI0 fun i j => .int (g i j)) := by
  intro pins s σ H x y v u Q I rx ry h
  obtain ⟨i, j, rfl, rfl, q⟩ := h
  obtain ⟨t, rfl⟩ := rx
  obtain ⟨t', rfl⟩ := ry
  exact rule i j t t' s _ _ ⟨.int (g i j), H, I.tok _, ⟨_, rfl⟩, q⟩
theorem opB0 {f : Value → Value → Sem Value} {g : Int → Int → Bool}
    (rule : ∀ (i j : Int) (t u : Tok) (s : Shared) (Q : Value → Shared → Prop) (E : Value → Shared → Prop), Q (.bool (g i j)) s → wpAny (model X.prog X.w) X.A (f (.int i t) (.int j u)) Q E s) :
    OpR X f (rI0 fun i j => .bl (g i j)) := by
  intro pins s σ H x y v u Q I rx ry h
  obtain ⟨i, j, rfl, rfl, q⟩ := h
  obtain ⟨t, rfl⟩ := rx
  obtain ⟨t', rfl⟩ := ry
  exact rule i j t t' s _ _ ⟨.bl (g i j), H, I, rfl, q⟩
def CDiv (i j : Int) : Prop := 0 < j ∧ j < 1073741824
def CMul (i j : Int) : Prop := (-(2 ^ 64) < i ∧ i < 2 ^ 64) ∨ (-(2 ^ 64) < j ∧ j < 2 ^ 64)
theorem CMul.ok {i j : Int} (h : CMul i j) : IntMulOk i j := by
  rcases h with ⟨h1, h2⟩ | ⟨h1, h2⟩
  · exact .of_left (intBits_le_64 h1 h2)
  · exact .of_right (intBits_le_64 h1 h2)
theorem op_add : OpR X (binaryOp .Add) (rI0 fun i j => .int (i + j)) := opI0 fun _ _ _ _ _ _ _ q => add_int q
theorem op_sub : OpR X (binaryOp .Sub) (rI0 fun i j => .int (i - j)) := opI0 fun _ _ _ _ _ _ _ q => sub_int q
theorem op_mul : OpR X (binaryOp .Mult) (rI CMul fun i j => .int (i * j)) := opI fun _ _ _ _ _ _ _ hc q => mul_int q hc.ok
theorem op_fdiv : OpR X (binaryOp .FloorDiv) (rI CDiv fun i j => .int (i / j)) := opI fun i j _ _ _ _ _ hc q => by
  have h1 : (0 : Int) < j := hc.1
  have h2 : j < 1073741824 := hc.2
  exact floordiv_int (by omega) (by rw [Int.fdiv_eq_ediv_of_nonneg i (by omega)]; exact q) (.inl (PyProof.noPylong_small (by omega)))
theorem op_mod : OpR X (binaryOp .Mod) (rI (fun _ j => 0 < j) fun i j => .int (i % j)) := opI fun i j _ _ _ _ _ hc q => by
  have h1 : (0 : Int) < j := hc
  exact mod_int' (by omega) (by rw [Int.fmod_eq_emod_of_nonneg i (by omega)]; exact q)
theorem unI {f : Value → Sem Value} {g : Int → Int}
    (rule : ∀ (i : Int) (t : Tok) (s : Shared) (Q : Value → Shared → Prop) (E : Value → Shared → Prop), Q (.int (g i) s.toks) { s with toks := s.toks + 1 } → wpAny (model X.prog X.w) X.A (f (.int i t)) Q E s) :
    UnR X f (rU fun i => .int (g i)) := by
  intro pins s σ H x v Q I rx h
  obtain ⟨i, rfl, q⟩ := h
  obtain ⟨t, rfl⟩ := rx
  exact rule i t s _ _ ⟨.int (g i), H, I.tok _, ⟨_, rfl⟩, q⟩
theorem un_neg : UnR X (unaryOp .USub) (rU fun i => .int (-i)) := unI fun _ _ _ _ _ q => neg_int q
end
/-! ### comparisons -/
def scal : V → V → Bool
  | .non, .non => true | .non, .int _ => true | .int _, .non => true | .non, .bl _ => true | .bl _, .non => true | .non, .str _ => true | .str _, .non => true
  | .int _, .int _ => true | .bl _, .bl _ => true | .str _, .str _ => true | .byt _, .byt _ => true
  | .int _, .str _ => true | .str _, .int _ => true | .bl _, .str _ => true | .str _, .bl _ => true
  | _, _ => false
def rEq : R2 := fun x y H Q => scal x y = true ∧ Q (.bl (decide (x = y))) H
def rNe : R2 := fun x y H Q => scal x y = true ∧ Q (.bl (!decide (x = y))) H
theorem dec_int {i j : Int} : decide (V.int i = V.int j) = (i == j) := by
  rw [Bool.eq_iff_iff]
  simp
theorem dec_bl {i j : Bool} : decide (V.bl i = V.bl j) = (i == j) := by
  rw [Bool.eq_iff_iff]
  simp
theorem dec_str {i j : Str} : decide (V.str i = V.str j) = (i == j) := by
  rw [Bool.eq_iff_iff]
  simp
theorem dec_byt {i j : Array UInt8} : decide (V.byt i = V.byt j) = (i.toList == j.toList) := by
  rw [Bool.eq_iff_iff]
  cases i
  cases j
  simp
section
variable {X : Cx} {a b c : Expr} {ta tb tc : TE} {pos : Pos}
theorem fin_bl {pins : List (Addr × Obj)} {σ : St} {H : Hp} {s : Shared} {Q : VK} {k k' : Bool} (I : Inv X pins σ H s) (q : Q (.bl k) H) (e : k = k') : EP X pins σ Q (.bool k') s := by
  subst e
  exact ⟨.bl k, H, I, rfl, q⟩
theorem op_eq : OpR X (compareOp .Eq) rEq := by
  intro pins s σ H x y v u Q I rx ry h
  obtain ⟨hs, q⟩ := h
  cases x with
  | non =>
    cases rx
    cases y with
    | non => cases ry; exact PySem.EqNone.eq_none_none (fin_bl I q (by simp))
    | bl j => cases ry; exact PySem.EqNone.eq_none_bool (fin_bl I q (by simp))
    | int j => obtain ⟨t', rfl⟩ := ry; exact PySem.EqNone.eq_none_int (fin_bl I q (by simp))
    | str j => obtain ⟨t', rfl⟩ := ry; exact PySem.EqNone.eq_none_str (fin_bl I q (by simp))
    | _ => exact absurd (show false = true from hs) Bool.false_ne_true
  | bl i =>
    cases rx
    cases y with
    | non => cases ry; exact PySem.EqNone.eq_bool_none (fin_bl I q (by simp))
    | bl j => cases ry; exact eq_bool (fin_bl I q dec_bl)
    | str j => obtain ⟨t', rfl⟩ := ry; exact PySem.EqMixed.eq_bool_str (fin_bl I q (by simp))
    | _ => exact absurd (show false = true from hs) Bool.false_ne_true
  | int i =>
    obtain ⟨t, rfl⟩ := rx
    cases y with
    | non => cases ry; exact PySem.EqNone.eq_int_none (fin_bl I q (by simp))
    | int j => obtain ⟨t', rfl⟩ := ry; exact eq_int (fin_bl I q dec_int)
    | str j => obtain ⟨t', rfl⟩ := ry; exact PySem.EqMixed.eq_int_str (fin_bl I q (by simp))
    | _ => exact absurd (show false = true from hs) Bool.false_ne_true
  | str i =>
    obtain ⟨t, rfl⟩ := rx
    cases y with
    | non => cases ry; exact PySem.EqNone.eq_str_none (fin_bl I q (by simp))
    | bl j => cases ry; exact PySem.EqMixed.eq_str_bool (fin_bl I q (by simp))
    | int j => obtain ⟨t', rfl⟩ := ry; exact PySem.EqMixed.eq_str_int (fin_bl I q (by simp))
    | str j => obtain ⟨t', rfl⟩ := ry; exact eq_str (fin_bl I q dec_str)
    | _ => exact absurd (show false = true from hs) Bool.false_ne_true
  | byt i =>
    obtain ⟨t, rfl⟩ := rx
    cases y with
    | byt j => obtain ⟨t', rfl⟩ := ry; exact PySem.W.eq_bytes (fin_bl I q dec_byt)
    | _ => exact absurd (show false = true from hs) Bool.false_ne_true
  | _ => cases y <;> exact absurd (show false = true from hs) Bool.false_ne_true
theorem op_ne : OpR X (compareOp .NotEq) rNe := by
  intro pins s σ H x y v u Q I rx ry h
  obtain ⟨hs, q⟩ := h
  cases x with
  | non =>
    cases rx
    cases y with
    | non => cases ry; exact PySem.EqNone.ne_none_none (fin_bl I q (by simp))
    | bl j => cases ry; exact PySem.EqNone.ne_none_bool (fin_bl I q (by simp))
    | int j => obtain ⟨t', rfl⟩ := ry; exact PySem.EqNone.ne_none_int (fin_bl I q (by simp))
    | str j => obtain ⟨t', rfl⟩ := ry; exact PySem.EqNone.ne_none_str (fin_bl I q (by simp))
    | _ => exact absurd (show false = true from hs) Bool.false_ne_true
  | bl i =>
    cases rx
    cases y with
    | non => cases ry; exact PySem.EqNone.ne_bool_none (fin_bl I q (by simp))
    | bl j => cases ry; exact ne_bool (fin_bl I q (congrArg not dec_bl))
    | str j => obtain ⟨t', rfl⟩ := ry; exact PySem.EqMixed.ne_bool_str (fin_bl I q (by simp))
    | _ => exact absurd (show false = true from hs) Bool.false_ne_true
  | int i =>
    obtain ⟨t, rfl⟩ := rx
    cases y with
    | non => cases ry; exact PySem.EqNone.ne_int_none (fin_bl I q (by simp))
    | int j => obtain ⟨t', rfl⟩ := ry; exact ne_int (fin_bl I q (congrArg not dec_int))
    | str j => obtain ⟨t', rfl⟩ := ry; exact PySem.EqMixed.ne_int_str (fin_bl I q (by simp))
    | _ => exact absurd (show false = true from hs) Bool.false_ne_true
  | str i =>
    obtain ⟨t, rfl⟩ := rx
    cases y with
    | non => cases ry; exact PySem.EqNone.ne_str_none (fin_bl I q (by simp))
    | bl j => cases ry; exact PySem.EqMixed.ne_str_bool (fin_bl I q (by simp))
    | int j => obtain ⟨t', rfl⟩ := ry; exact PySem.EqMixed.ne_str_int (fin_bl I q (by simp))
    | str j => obtain ⟨t', rfl⟩ := ry; exact ne_str (fin_bl I q (congrArg not dec_str))
    | _ => exact absurd (show false = true from hs) Bool.false_ne_true
  | byt i =>
    obtain ⟨t, rfl⟩ := rx
    cases y with
    | byt j => obtain ⟨t', rfl⟩ := ry; exact PySem.W.ne_bytes (fin_bl I q (congrArg not dec_byt))
    | _ => exact absurd (show false = true from hs) Bool.false_ne_true
  | _ => cases y <;> exact absurd (show false = true from hs) Bool.false_ne_true
theorem op_lt : OpR X (compareOp .Lt) (rI0 fun i j => .bl (decide (i < j))) := opB0 fun _ _ _ _ _ _ _ q => lt_int q
theorem op_le : OpR X (compareOp .LtE) (rI0 fun i j => .bl (decide (i ≤ j))) := opB0 fun _ _ _ _ _ _ _ q => le_int q
theorem op_gt : OpR X (compareOp .Gt) (rI0 fun i j => .bl (decide (j < i))) := opB0 fun _ _ _ _ _ _ _ q => gt_int q
theorem op_isN : OpR X (compareOp .Is) (fun x y H Q => y = .non ∧ Q (.bl (decide (x = .non))) H) := by
  intro pins s σ H x y v u Q I rx ry h
  obtain ⟨rfl, q⟩ := h
  cases ry
  refine is_none_gen (fin_bl I q ?_)
  cases x <;> first
    | (cases rx; rfl)
    | (obtain ⟨t, rfl⟩ := rx; rfl)
theorem nomark (b : Expr) {op : CmpOp} (h : op ≠ .In := by decide) (h2 : op ≠ .NotIn := by decide) : behindInMarks op b = false := by
  have e1 : (op == CmpOp.In) = false := by cases op <;> first | rfl | exact absurd rfl h
  have e2 : (op == CmpOp.NotIn) = false := by cases op <;> first | rfl | exact absurd rfl h2
  cases b <;> simp [behindInMarks, e1, e2]
theorem pe_cmpR {op : CmpOp} {r : R2} (ho : OpR X (compareOp op) r) (ha : PE X a ta) (hb : PE X b tb) (hm : behindInMarks op b = false) : PE X (.Compare a [op] [b] pos) (tOp r ta tb) := by
  intro pins s σ H Q I h
  exact wpAny_Compare1 (binT ha hb I h fun v u s2 x y H2 I2 rx ry q => ho pins s2 σ H2 x y v u Q I2 rx ry q) hm
def tTest (t : TE) : TT := fun σ H Q => t σ H fun x H' => ∃ k, x = .bl k ∧ Q k H'
theorem pt_cmpR {op : CmpOp} {r : R2} (ho : OpR X (compareOp op) r) (ha : PE X a ta) (hb : PE X b tb) (hm : behindInMarks op b = false) : PT X (.Compare a [op] [b] pos) (tTest (tOp r ta tb)) := by
  intro pins s σ H Q I h
  refine wpAny_isTrue_Compare1 (thn (ha pins s σ H _ I h) fun v s1 ⟨x, H1, I1, r1, q1⟩ => thn (hb pins s1 σ H1 _ I1 q1) fun u s2 ⟨y, H2, I2, r2, q2⟩ =>
    thn (ho pins s2 σ H2 x y v u _ I2 r1 r2 q2) fun c s3 ⟨z, H3, I3, r3, k, e, q3⟩ => ?_) hm
  subst e
  cases r3
  exact wpAny_truthy_bool ⟨H3, I3, q3⟩
def tChain (r r' : R2) (ta tb tc : TE) : TE := fun σ H Q => ta σ H fun x H1 => tb σ H1 fun y H2 => r x y H2 fun z H3 => ∃ k, z = .bl k ∧
  (if k = true then tc σ H3 fun w' H4 => r' y w' H4 Q else Q (.bl false) H3)
theorem pe_chain {op op' : CmpOp} {r r' : R2} (ho : OpR X (compareOp op) r) (ho' : OpR X (compareOp op') r') (ha : PE X a ta) (hb : PE X b tb) (hc : PE X c tc)
    (hm : lastMarks [op, op'] [b, c] = false := by with_unfolding_all rfl) : PE X (.Compare a [op, op'] [b, c] pos) (tChain r r' ta tb tc) := by
  intro pins s σ H Q I h
  refine Compare_chain (thn (ha pins s σ H _ I h) fun v s1 ⟨x, H1, I1, r1, q1⟩ => chain_link (thn (hb pins s1 σ H1 _ I1 q1) fun u s2 ⟨y, H2, I2, r2, q2⟩ =>
    thn (ho pins s2 σ H2 x y v u _ I2 r1 r2 q2) fun d s3 ⟨z, H3, I3, r3, k, e, q3⟩ => ?_)) hm
  subst e
  cases r3
  refine wpAny_truthy_bool ?_
  cases k with
  | false => exact ite_ff ⟨.bl false, H3, I3, rfl, q3⟩
  | true => exact ite_tt (chain_last (thn (hc pins s3 σ H3 _ I3 q3) fun w' s4 ⟨z', H4, I4, r4, q4⟩ => ho' pins s4 σ H4 y z' u w' Q I4 r2 r4 q4))
theorem line63 : (sizeLine : Nat) < 2 ^ 63 := by rw [sizeLine_eq]; decide
theorem op_add_str : OpR X (binaryOp .Add) (fun x y H Q => ∃ i j, x = .str i ∧ y = .str j ∧ i.length + j.length ≤ sizeLine ∧ Q (.str (i ++ j)) H) := by
  intro pins s σ H x y v u Q I rx ry h
  obtain ⟨i, j, rfl, rfl, hz, q⟩ := h
  obtain ⟨t, rfl⟩ := rx
  obtain ⟨t', rfl⟩ := ry
  exact add_str (fun t' tk => ⟨.str (i ++ j), H, I.tok _, ⟨_, rfl⟩, q⟩) hz
/-! ### scalar builtins, by CallR -/
theorem vals1 {x : V} {us : List Value} (r : Vals [x] us) : ∃ u, us = [u] ∧ RelV x u := by
  cases r with
  | cons r1 r2 => cases r2; exact ⟨_, rfl, r1⟩
theorem vals2 {x y : V} {us : List Value} (r : Vals [x, y] us) : ∃ u w', us = [u, w'] ∧ RelV x u ∧ RelV y w' := by
  cases r with
  | cons r1 r2 =>
    cases r2 with
    | cons r3 r4 => cases r4; exact ⟨_, _, rfl, r1, r3⟩
theorem call_ord : CallR X (.builtin "ord") (fun xs H Q => ∃ x, xs = [.str x] ∧ x.length = 1 ∧ Q (.int (x.cps.getD 0 0 : Nat)) H) := by
  intro pins s σ H xs us Q I r h
  obtain ⟨x, rfl, hz, q⟩ := h
  obtain ⟨u, rfl, t, rfl⟩ := vals1 r
  exact ord_of_one hz ⟨.int _, H, I.tok _, ⟨_, rfl⟩, q⟩
def LenV (K : PySem.W.Frag) (x : V) (H : Hp) (n : Nat) : Prop :=
  match x with
  | .str y => y.length ≤ sizeLine ∧ n = y.length
  | .byt y => y.size ≤ sizeLine ∧ n = y.size
  | .ref p => (∃ xs, SqL K H p xs ∧ n = xs.length) ∨ ∃ xs, SqT K H p xs ∧ n = xs.length
  | _ => False
theorem call_len : CallR X (.builtin "len") (fun xs H Q => ∃ x n, xs = [x] ∧ LenV X.K x H n ∧ Q (.int n) H) := by
  intro pins s σ H xs us Q I r h
  obtain ⟨x, n, rfl, e, q⟩ := h
  obtain ⟨u, rfl, rx⟩ := vals1 r
  have hl := line63
  have hs : sizeLine = 16777216 := sizeLine_eq
  cases x with
  | str y =>
    obtain ⟨t, rfl⟩ := rx
    obtain ⟨hy, e'⟩ : y.length ≤ sizeLine ∧ n = y.length := e
    subst e'
    exact len_str (by omega) ⟨.int _, H, I.tok _, ⟨_, rfl⟩, q⟩
  | byt y =>
    obtain ⟨t, rfl⟩ := rx
    obtain ⟨hy, e'⟩ : y.size ≤ sizeLine ∧ n = y.size := e
    subst e'
    exact PySem.W.len_bytes (by omega) ⟨.int _, H, I.tok _, ⟨_, rfl⟩, q⟩
  | ref p =>
    cases rx
    have e' : (∃ xs, SqL X.K H p xs ∧ n = xs.length) ∨ ∃ xs, SqT X.K H p xs ∧ n = xs.length := e
    rcases e' with ⟨xs, hx, e'⟩ | ⟨xs, hx, e'⟩
    · subst e'
      obtain ⟨its, r', pl, hz⟩ := I.list hx
      have hlen := r'.length
      exact Calls.call_len_list pl.isList (by simp only [List.size_toArray]; omega) ⟨.int xs.length, H, I.tok _, ⟨_, by simp only [List.size_toArray]; rw [hlen]⟩, q⟩
    · subst e'
      obtain ⟨its, r', pl, hz⟩ := I.tuple hx
      have hlen := r'.length
      exact len_tuple pl (by simp only [List.size_toArray]; omega) ⟨.int xs.length, H, I.tok _, ⟨_, by simp only [List.size_toArray]; rw [hlen]⟩, q⟩
  | _ => exact (show False from e).elim
end
end L2
namespace L2
open PySem PySem.Spec PyProof.Rows
/-! ### an instance, its attributes a map -/
structure ObjM (h : Heap) (x dx C : Addr) (mA : Str → Option Value) : Prop where
  obj : h.get? x = some (PySem.W.instObj C dx)
  ns : h.Ns1 dx mA
  ne : dx ≠ x
theorem lookIn_ns {h : Heap} {dx : Addr} {mA : Str → Option Value} (n : h.Ns1 dx mA) : ∃ od, h.get? dx = some od ∧ ∀ name, PySem.W.lookIn name od = some (mA name) := by
  obtain ⟨o, es, ep, ho, hd, hk, _, hm⟩ := n
  refine ⟨o, ho, fun name => ?_⟩
  have e := hm name
  unfold nsFind findBy at e
  rw [← Array.find?_toList] at e
  unfold PySem.W.lookIn
  rw [hd]
  dsimp only
  split
  · rename_i y q
    rw [q] at e
    exact congrArg some e
  · rename_i q
    rw [q] at e
    have a : es.toList.any (·.refKey) = false := by
      rw [List.any_eq_false]
      intro y hy
      obtain ⟨z, t, hkey⟩ := hk y (Array.mem_toList_iff.mp hy)
      simp [DictEntry.refKey, hkey]
    have a' : ¬ es.toList.any (·.refKey) = true := by rw [a]; exact Bool.false_ne_true
    rw [if_neg a']
    exact congrArg some e
theorem ObjM.look {h : Heap} {x dx C : Addr} {mA : Str → Option Value} (I : ObjM h x dx C mA) : ∃ od, PySem.W.InstAt h x (PySem.W.instObj C dx) C (some od) ∧ ∀ name, PySem.W.lookIn name od = some (mA name) :=
  let ⟨od, ho, hl⟩ := lookIn_ns I.ns
  ⟨od, ⟨I.obj, rfl, rfl, ho⟩, hl⟩
section
variable {prog : Program} {w : World} {A : Around} {E : Value → Shared → Prop} {s : Shared} {K : PySem.W.Frag} {x dx C f : Addr} {mA : Str → Option Value} {name : Str} {v : Value}
end
/-! ### the attributes as a list of pairs -/
def putF (f : Str) (v : V) : List (Str × V) → List (Str × V)
  | [] => [(f, v)]
  | (g, x) :: r => if g = f then (g, v) :: r else (g, x) :: putF f v r
theorem lookup_putF (f g : Str) (v : V) : ∀ fs : List (Str × V), (putF f v fs).lookup g = if g = f then some v else fs.lookup g
  | [] => by
    show List.lookup g [(f, v)] = _
    by_cases h : g = f
    · have hb : (g == f) = true := beq_iff_eq.mpr h
      simp only [List.lookup, hb, if_pos h]
    · have hb : (g == f) = false := beq_eq_false_iff_ne.mpr h
      simp only [List.lookup, hb, if_neg h]
  | (k, x) :: r => by
    have ih := lookup_putF f g v r
    rw [show putF f v ((k, x) :: r) = (if k = f then (k, v) :: r else (k, x) :: putF f v r) from rfl]
    by_cases hk : k = f
    · rw [if_pos hk]
      by_cases h : g = k
      · have hb : (g == k) = true := beq_iff_eq.mpr h
        simp only [List.lookup, hb, if_pos (h.trans hk)]
      · have hb : (g == k) = false := beq_eq_false_iff_ne.mpr h
        simp only [List.lookup, hb, if_neg (fun e : g = f => h (e.trans hk.symm))]
    · rw [if_neg hk]
      by_cases h : g = k
      · have hb : (g == k) = true := beq_iff_eq.mpr h
        simp only [List.lookup, hb, if_neg (fun e : g = f => hk (h.symm.trans e))]
      · have hb : (g == k) = false := beq_eq_false_iff_ne.mpr h
        simp only [List.lookup, hb]
        exact ih
theorem keys_putF (f : Str) (v : V) : ∀ fs : List (Str × V), f ∈ (putF f v fs).map (·.1) ∧ ∀ g, g ∈ fs.map (·.1) → g ∈ (putF f v fs).map (·.1)
  | [] => ⟨by simp [putF], fun g h => by simp at h⟩
  | (k, x) :: r => by
    obtain ⟨i1, i2⟩ := keys_putF f v r
    rw [show putF f v ((k, x) :: r) = (if k = f then (k, v) :: r else (k, x) :: putF f v r) from rfl]
    by_cases hk : k = f
    · rw [if_pos hk]
      subst hk
      exact ⟨by simp, fun g h => by simpa using h⟩
    · rw [if_neg hk]
      refine ⟨?_, fun g h => ?_⟩
      · rw [List.map_cons]
        exact List.mem_cons_of_mem _ i1
      · rw [List.map_cons] at h ⊢
        rcases List.mem_cons.mp h with e | e
        · exact List.mem_cons.mpr (.inl e)
        · exact List.mem_cons_of_mem _ (i2 g e)
theorem length_putF (f : Str) (v : V) : ∀ fs : List (Str × V), (putF f v fs).length ≤ fs.length + 1
  | [] => by simp [putF]
  | (k, x) :: r => by
    have ih := length_putF f v r
    rw [show putF f v ((k, x) :: r) = (if k = f then (k, v) :: r else (k, x) :: putF f v r) from rfl]
    by_cases hk : k = f
    · rw [if_pos hk, List.length_cons, List.length_cons]; omega
    · rw [if_neg hk, List.length_cons, List.length_cons]; omega
section
variable {P : Program} {w : World} {H H' : Hp} {h h' : Heap} {a C dx : Addr} {fs fs' : List (Str × V)}
theorem ins_get (hok : HOk P w H h) (e : H a = some (.ins C dx fs)) : ∃ mA, ObjM h a dx C mA ∧ (∀ f, RelO (fs.lookup f) (mA f)) ∧ PySem.Within mA (fs.map (·.1)) ∧ fs.length ≤ 1000 ∧ H dx = some (.own a) := by
  obtain ⟨d, z, ne, ob, mA, n, r, q⟩ := (show ObjOk P w H h a (.ins C dx fs) from hok a _ e)
  exact ⟨mA, ⟨ob, n, ne⟩, r, q, z, d⟩
end
/-! ### what of the text a class must have -/
structure Cls (K : PySem.W.Frag) (C : Addr) : Prop where
  pg : PySem.W.plainGet K C Str.empty = true
  hd : PySem.W.hasDictIn K C = true
  po : PySem.W.plainOver K C = true
  sa : PySem.W.findIn K (.ref C) "__setattr__" = some (some (.builtin "object.__setattr__"))
theorem Cls.get {K : PySem.W.Frag} {C : Addr} (c : Cls K C) (f : Str) : PySem.W.plainGet K C f = true := c.pg
def NoAttr (K : PySem.W.Frag) (C : Addr) (f : Str) : Prop := PySem.W.findIn K (.ref C) f = some none
theorem NoAttr.taker {K : PySem.W.Frag} {C : Addr} {f : Str} (n : NoAttr K C f) : PySem.W.takerIn K C f = some none := by
  unfold PySem.W.takerIn
  rw [show PySem.W.findIn K (.ref C) f = some none from n]
  rfl
section
variable {X : Cx} {pins : List (Addr × Obj)} {σ : St} {H : Hp} {s : Shared} {a C dx : Addr} {fs : List (Str × V)} {f : Str} {v : V} {A : Around} {E : Value → Shared → Prop}
theorem attr_of {prog : Program} {w : World} {env : Env} {e : Expr} {f : Str} {pos : Pos} {s : Shared} {Q : Value → Shared → Prop} (hb : attributeBase e f env (eval e env) = eval e env)
    (h : wpAny (model prog w) A (eval e env) (fun o s₁ => wpAny (model prog w) A (getAttr o f true) Q E s₁) E s) : wpAny (model prog w) A (eval (.Attribute e f pos) env) Q E s :=
  Attribute_any_ h (by rw [arm_eval_Attribute, hb])
end
section
variable {X : Cx} {o e value : Expr} {f : Str} {pos pos' tpos : Pos} {ta tv : TE}
end
section
variable {X : Cx} {pins : List (Addr × Obj)} {σ : St} {H : Hp} {s : Shared} {A : Around} {E : Value → Shared → Prop} {Q : Value → Shared → Prop} {c : Value} {b : Bool}
inductive TyOf (K : PySem.W.Frag) (H : Hp) : V → Value → Prop where
  | non : TyOf K H .non (.type "NoneType")
  | bl (x : Bool) : TyOf K H (.bl x) (.type "bool")
  | int (i : Int) : TyOf K H (.int i) (.type "int")
  | str (x : Str) : TyOf K H (.str x) (.type "str")
  | flt (x : UInt64) : TyOf K H (.flt x) (.type "float")
  | lst {a : Addr} {xs : List V} (e : H a = some (.lst xs)) : TyOf K H (.ref a) (.type "list")
  | frz {a : Addr} {o : Obj} {xs : List V} (e : H a = some (.frz o (.lst xs))) : TyOf K H (.ref a) (.type "list")
  | tup {a : Addr} {xs : List V} (e : H a = some (.tup xs)) : TyOf K H (.ref a) (.type "tuple")
  | dK {a : Addr} {kvs : List (Key × V)} (e : H a = some (.dK kvs)) : TyOf K H (.ref a) (.type "dict")
  | dT {a : Addr} {kvs : List (List Key × V)} (e : H a = some (.dT kvs)) : TyOf K H (.ref a) (.type "dict")
  | ins {a C dx : Addr} {fs : List (Str × V)} (e : H a = some (.ins C dx fs)) (cl : Cls K C) (ha : PySem.W.findIn K (.ref C) "__class__" = some (some (.builtin "object.__class__")))
      (hn : PySem.W.specialIn K (.builtin "object.__class__") "__get__" = some (some (.builtin "getset_descriptor.__get__"))) (htk : PySem.W.takesIn K (.builtin "object.__class__") = some true)
      (hm : PySem.W.mroIn K C (.type "object") = some true) : TyOf K H (.ref a) (.ref C)
theorem isinst_ok {x : V} {u t : Value} (I : Inv X pins σ H s) (rx : RelV x u) (ty : TyOf X.K H x t) (e : PySem.W.kitOne X.K t c = some b) (h : ∀ tk, Q (.bool b) { s with toks := tk }) :
    wpAny (model X.prog X.w) A (call (.builtin "isinstance") [u, c]) Q E s := by
  cases ty with
  | non => cases (show u = Value.none from rx); exact PySem.W.kia_one PySem.W.kitx_none I.kIn True.intro e (fun z => nomatch z) h
  | bl y => cases (show u = Value.bool y from rx); exact PySem.W.kia_one PySem.W.kitx_bool I.kIn True.intro e (fun z => nomatch z) h
  | int i => obtain ⟨t, q⟩ := (show ∃ t, u = Value.int i t from rx); cases q; exact PySem.W.kia_one PySem.W.kitx_int I.kIn True.intro e (fun z => nomatch z) h
  | str y => obtain ⟨t, q⟩ := (show ∃ t, u = Value.str y t from rx); cases q; exact PySem.W.kia_one PySem.W.kitx_str I.kIn True.intro e (fun z => nomatch z) h
  | flt y => obtain ⟨t, q⟩ := (show ∃ t, u = Value.float y t from rx); cases q; exact PySem.W.kia_one PySem.W.kitx_float I.kIn True.intro e (fun z => nomatch z) h
  | @lst a xs ea =>
    cases (show u = Value.ref a from rx)
    obtain ⟨_, _, n, _, h1⟩ := (show ObjOk X.prog X.w H s.heap a (.lst xs) from I.hok a _ ea)
    exact PySem.W.kia_one PySem.W.kitx_list I.kIn ⟨_, h1, rfl⟩ e (fun z => nomatch z) h
  | @frz a ob xs ea =>
    cases (show u = Value.ref a from rx)
    obtain ⟨_, _, _, n, _, h1⟩ := (show ObjOk X.prog X.w H s.heap a (.frz ob (.lst xs)) from I.hok a _ ea)
    exact PySem.W.kia_one PySem.W.kitx_list I.kIn ⟨_, h1, rfl⟩ e (fun z => nomatch z) h
  | @tup a xs ea =>
    cases (show u = Value.ref a from rx)
    obtain ⟨_, _, _, p⟩ := (show ObjOk X.prog X.w H s.heap a (.tup xs) from I.hok a _ ea)
    obtain ⟨o, h1, h2, _⟩ := p
    exact PySem.W.kia_one PySem.W.kitx_tuple I.kIn ⟨o, h1, h2⟩ e (fun z => nomatch z) h
  | @dK a kvs ea =>
    cases (show u = Value.ref a from rx)
    obtain ⟨_, _, vs, _, p⟩ := (show ObjOk X.prog X.w H s.heap a (.dK kvs) from I.hok a _ ea)
    obtain ⟨o, es, ep, h1, h2, _⟩ := p
    exact PySem.W.kia_one PySem.W.kitx_dict I.kIn ⟨o, h1, h2.1⟩ e (fun z => nomatch z) h
  | @dT a kvs ea =>
    cases (show u = Value.ref a from rx)
    obtain ⟨_, _, xs, _, o, es, ep, h1, h2, _⟩ := (show ObjOk X.prog X.w H s.heap a (.dT kvs) from I.hok a _ ea)
    exact PySem.W.kia_one PySem.W.kitx_dict I.kIn ⟨o, h1, h2.1⟩ e (fun z => nomatch z) h
  | @ins a C dx fs ea cl ha hn htk hm =>
    cases (show u = Value.ref a from rx)
    obtain ⟨mA, O, _⟩ := ins_get I.hok ea
    obtain ⟨od, J, _⟩ := O.look
    exact PySem.W.kia_one (PySem.W.kitx_own (cl.get _) cl.hd ha hn htk hm) I.kIn J e (fun z => nomatch z) h
end
end L2
namespace L2
open PySem PySem.Spec PyProof.Rows
/-! ### room -/
structure Room (k : Nat) (A : Around) : Prop where
  hd : A.handled = none
  dp : A.depth + 3 * k + 5 < recursionLimit
  un : A.units + 16 * k + 200 < cLine
theorem Room.mono {j k : Nat} {A : Around} (r : Room k A) (h : j ≤ k) : Room j A := ⟨r.hd, by have := r.dp; omega, by have := r.un; omega⟩
theorem Room.deeper {k : Nat} {A : Around} (r : Room (k + 1) A) (env : Env) : Room k (A.deeper env) :=
  ⟨r.hd, by have := r.dp; show A.depth + 1 + 3 * k + 5 < _; omega, by have := r.un; show A.units + 3 + 16 * k + 200 < _; omega⟩
theorem make_depth {A : Around} {C : Addr} {us : List Value} {kw : List (Str × Value)} : (A.under (.builtin "type.__call__" ⟨.ref C :: us, kw⟩)).depth = A.depth + 1 := by
  first | rfl | simp [Around.under, Code.weight, Code.isCreation, Code.isGuard, Code.isCaller, Code.frames, Code.isFrame, guardIds]
theorem make_units {A : Around} {C : Addr} {us : List Value} {kw : List (Str × Value)} : (A.under (.builtin "type.__call__" ⟨.ref C :: us, kw⟩)).units = A.units + 1 := by
  first | rfl | simp [Around.under, Code.cUnits, Code.frames, Code.isFrame]
theorem Room.make {k : Nat} {A : Around} (r : Room (k + 1) A) (C : Addr) (us : List Value) (kw : List (Str × Value)) : Room k (A.under (.builtin "type.__call__" ⟨.ref C :: us, kw⟩)) :=
  ⟨r.hd, by have := r.dp; rw [make_depth]; omega, by have := r.un; rw [make_units]; omega⟩
theorem Room.depth {k : Nat} {A : Around} (r : Room k A) : A.depth < recursionLimit := by have := r.dp; omega
/-! ### argument lists and displays -/
def tNil : TA := fun _ H Q => Q [] H
def tCons (ta : TE) (tr : TA) : TA := fun σ H Q => ta σ H fun x H1 => tr σ H1 fun xs H2 => Q (x :: xs) H2
section
variable {X : Cx} {e : Expr} {es : List Expr} {te : TE} {t : TA} {pos : Pos}
theorem pa_nil : PA X [] tNil := fun _ _ _ _ H Q I h => Calls.spliced_nil ⟨[], H, I, .nil, h⟩
theorem pa_cons (ha : PE X e te) (hr : PA X es t) (hs : starEach (e :: es) X.env = (false, eval e X.env) :: starEach es X.env := by rfl) : PA X (e :: es) (tCons te t) := by
  intro pos pins s σ H Q I h
  rw [hs]
  show wpAny _ _ (spliced ((false, eval e X.env) :: backTo pos (starEach es X.env))) _ _ s
  refine Calls.spliced_cons (thn (ha pins s σ H _ I h) fun u s1 ⟨x, H1, I1, r1, q1⟩ => ?_)
  exact thn (hr pos pins s1 σ H1 _ I1 q1) fun us s2 ⟨xs, H2, I2, r2, q2⟩ => ⟨x :: xs, H2, I2, .cons r1 r2, q2⟩
def tTup (t : TA) : TE := fun σ H Q => t σ H fun xs H1 => xs.length ≤ sizeLine ∧ ∀ p, H1 p = none → Q (.ref p) (upd H1 p (.tup xs))
def tLst (t : TA) : TE := fun σ H Q => t σ H fun xs H1 => xs.length ≤ sizeLine ∧ ∀ p, H1 p = none → Q (.ref p) (upd H1 p (.lst xs))
theorem pe_tup {x1} (h : PA X es t) : PE X (.Tuple es x1 pos) (tTup t) := by
  intro pins s σ H Q I hq
  refine wpAny_Tuple_spliced (thn (h pos pins s σ H _ I hq) fun us s1 ⟨xs, H1, I1, r, z, q⟩ => ⟨by rw [← r.length]; exact z, ?_⟩)
  have hf : H1 s1.heap.objs.size = none := I1.hok.fresh (Nat.le_refl _)
  refine ⟨.ref s1.heap.objs.size, upd H1 s1.heap.objs.size (.tup xs), I1.laid (t' := s1.toks) (fun b u e => Heap.get?_push_of_some _ e) (Nat.le_refl _) ?_, rfl, q _ hf⟩
  exact ⟨z, us, r, ⟨_, Heap.get?_push_size _ rfl, rfl, _, rfl⟩⟩
theorem pe_lst (h : PA X es t) : PE X (.List es pos) (tLst t) := by
  intro pins s σ H Q I hq
  refine wpAny_List_spliced (thn (h pos pins s σ H _ I hq) fun us s1 ⟨xs, H1, I1, r, z, q⟩ => ⟨by rw [← r.length]; exact z, ?_⟩)
  have hf : H1 s1.heap.objs.size = none := I1.hok.fresh (Nat.le_refl _)
  refine ⟨.ref s1.heap.objs.size, upd H1 s1.heap.objs.size (.lst xs), I1.laid (t' := s1.toks) (fun b u e => Heap.get?_push_of_some _ e) (Nat.le_refl _) ?_, rfl, q _ hf⟩
  exact ⟨z, us, 0, r, Heap.get?_push_size _ rfl⟩
end
/-! ### what a def promises -/
abbrev Sp := List V → Hp → VK → XK → Prop
abbrev CXT := List Env → Hp → Shared → XK → Value → Shared → Prop
structure Env0 (P : Program) (w : World) (K : PySem.W.Frag) (mg : Str → Option Value) (base : Heap) (A : Around) (outer : List Env) (s : Shared) (H : Hp) : Prop where
  frames : A.frames = some outer
  mod : Mod K mg base
  bs : ∀ b o, base.get? b = some o → s.heap.get? b = some o ∧ H b = none
  bsz : base.objs.size ≤ s.heap.objs.size
  funs : s.heap.FunFrames base outer
  frf : ∀ b ∈ frs outer, H b = none
  hok : HOk P w H s.heap
  bare : AllBare s.gens
def CE (outer : List Env) (P : Program) (w : World) (H : Hp) (s : Shared) (Q : VK) (u : Value) (s' : Shared) : Prop :=
  ∃ v H', s'.os = s.os ∧ AllBare s'.gens ∧ Un (frs outer) [] H H' s.heap s'.heap ∧ HOk P w H' s'.heap ∧ RelV v u ∧ Q v H'
def CR (CX : CXT) (outer : List Env) (P : Program) (w : World) (H : Hp) (s : Shared) (Q : VK) (E : XK) (r : Result) (s' : Shared) : Prop :=
  match r with
  | .ok (.ret u) => CE outer P w H s Q u s'
  | .ok _ => False
  | .error e => CX outer H s E e s'
structure FnOk (P : Program) (w : World) (K : PySem.W.Frag) (mg : Str → Option Value) (base : Heap) (CX : CXT) (k : Nat) (f : Addr) (fd : FuncData) (ps : List Str) (sp : Sp) : Prop where
  len : ∀ vs H Q E, sp vs H Q E → vs.length = ps.length
  run : ∀ (A : Around) (outer : List Env) (s : Shared) (H : Hp) (args : Args) (us : List Value) (vs : List V) (Q : VK) (E : XK), Room k A → Env0 P w K mg base A outer s H → BindsTo s fd args (ps.zip us) → Vals vs us → sp vs H Q E →
    codeAny (model P w) A (.call (.ref f) args) (CR CX outer P w H s Q E) s
theorem Env0.make {P : Program} {w : World} {K : PySem.W.Frag} {mg : Str → Option Value} {base : Heap} {A : Around} {outer : List Env} {s : Shared} {H : Hp} (e : Env0 P w K mg base A outer s H) (C : Addr) (us : List Value) (kw : List (Str × Value)) :
    Env0 P w K mg base (A.under (.builtin "type.__call__" ⟨.ref C :: us, kw⟩)) outer s H := ⟨by first | exact e.frames | (simpa [Around.under, Code.envs, Code.isFrame, pushEnvs] using e.frames), e.mod, e.bs, e.bsz, e.funs, e.frf, e.hok, e.bare⟩
section
variable {X : Cx} {pins : List (Addr × Obj)} {σ : St} {H : Hp} {s s' : Shared}
theorem Inv.env0 (I : Inv X pins σ H s) : Env0 X.prog X.w X.K X.mg X.base X.A X.stack s H :=
  ⟨I.ok.frames, I.ok.mod, I.bs, Nat.le_trans I.ok.bsz I.sz, I.stack, I.stkFree, I.hok, I.bare⟩
theorem Inv.after {Q : VK} {u : Value} (I : Inv X pins σ H s) (h : CE X.stack X.prog X.w H s Q u s') : EP X pins σ Q u s' := by
  obtain ⟨v, H', os, bare, un, hok, r, q⟩ := h
  obtain ⟨hh, g, d, t, os'⟩ := s'
  obtain rfl : os' = s.os := os
  exact ⟨v, H', I.call (h' := hh) (g' := g) (d' := d) (t' := t) (ch := []) un hok bare (fun b z => absurd z (by simp)), r, q⟩
end
/-! ### calls -/
def tCall (sp : Sp) (dvs : List V) (E : XK) (t : TA) : TE := fun σ H Q => t σ H fun vs H1 => sp (vs ++ dvs) H1 Q E
def Binds (K : PySem.W.Frag) (fd : FuncData) (ps : List Str) (ds : List Value) : Prop :=
  ∀ (s : Shared) (us : List Value), K.In s.heap → (us ++ ds).length = ps.length → BindsTo s fd ⟨us, []⟩ (ps.zip (us ++ ds))
theorem Binds.all {K : PySem.W.Frag} {fd : FuncData} {ps : List Str} (h : ∀ us : List Value, us.length = ps.length → bindArgs fd ⟨us, []⟩ = pure (ps.zip us)) : Binds K fd ps [] := fun s us _ hl => by
  rw [List.append_nil] at hl ⊢
  exact .of_eq (h us hl)
def Passes (CX : CXT) (X : Cx) (E : XK) : Prop := ∀ (pins : List (Addr × Obj)) (σ : St) (H : Hp) (s : Shared) (e : Value) (s' : Shared), Inv X pins σ H s → CX X.stack H s E e s' → X.xe e s'
section
variable {X : Cx} {CX : CXT} {k : Nat} {f C : Addr} {fd : FuncData} {ps : List Str} {sp : Sp} {dvs : List V} {ds : List Value} {E : XK} {x m : Str} {p pos apos : Pos} {e o : Expr} {es : List Expr} {ta : TE} {t : TA}
theorem run_fn {pins : List (Addr × Obj)} {σ : St} {H : Hp} {s : Shared} {Q : VK} {us : List Value} {vs : List V} (F : FnOk X.prog X.w X.K X.mg X.base CX k f fd ps sp) (hr : Room k X.A) (hb : Binds X.K fd ps ds) (hd : Vals dvs ds) (hx : Passes CX X E)
    (I : Inv X pins σ H s) (r : Vals vs us) (h : sp (vs ++ dvs) H Q E) : wpAny (model X.prog X.w) X.A (call (.ref f) us) (EP X pins σ Q) X.xe s := by
  have r2 : Vals (vs ++ dvs) (us ++ ds) := r.append hd
  have hl : (us ++ ds).length = ps.length := by rw [← r2.length]; exact F.len _ _ _ _ h
  refine wpAny_call (codeAny_mono (F.run X.A X.stack s H ⟨us, []⟩ (us ++ ds) (vs ++ dvs) Q E hr I.env0 (hb s us I.kIn hl) r2 h) fun r s' hq => ?_)
  cases r with
  | error e => exact hx pins σ H s e s' I hq
  | ok fl =>
    cases fl with
    | ret u => exact I.after hq
    | next => exact False.elim hq
    | brk => exact False.elim hq
    | cont => exact False.elim hq
theorem pe_call (F : FnOk X.prog X.w X.K X.mg X.base CX k f fd ps sp) (hr : Room k X.A) (hg : Gl X x) (hm : X.mg x = some (.ref f)) (hk : PySem.W.keepIn X.K (.ref f) = true) (hb : Binds X.K fd ps ds) (hd : Vals dvs ds) (hx : Passes CX X E)
    (ha : PA X (e :: es) t) (hdb : (x == ("__debug__" : Str)) = false := by decide) (he : starEach (e :: es) X.env = (false, eval e X.env) :: starEach es X.env := by rfl) (hpl : (backTo pos (starEach es X.env)).any (·.1) = false := by rfl) :
    PE X (.Call (.Name x p) (e :: es) [] pos) (tCall sp dvs E t) := by
  intro pins s σ H Q I h
  refine wpAny_Call_Name_kw (ld_glob I hg hm ?_ hdb)
  refine PySem.W.callWith_K (h₀ := X.base) I.ok.mod.kin hk (thn (ha pos pins s σ H _ I h) fun us s1 ⟨vs, H1, I1, r, q⟩ => ⟨I1.kIn, ?_⟩) he hpl
  exact run_fn F hr hb hd hx I1 r q
end
section
variable {X : Cx} {CX : CXT} {k : Nat} {f C : Addr} {fd : FuncData} {ps ks : List Str} {sp : Sp} {E : XK} {x m : Str} {p pos apos kpos : Pos} {e o : Expr} {es : List Expr} {kws : List Keyword} {te ta : TE} {t tk : TA} {nm : Option Str}
variable {g : List Value → List Value → List Value} {gV : List V → List V → List V}
end
/-! ### a def's body keeps its promise -/
structure FnScope (N P : List Str) (sc : Scope) : Prop where
  kind : sc.kind = .function
  co : sc.isCoroutine = false
  gen : sc.isGenerator = false
  nd : N.Nodup
  pre : N.take P.length = P
  par : ∀ x ∈ P, sc.names.lookup x = some .local ∨ sc.names.lookup x = some .cell
  nofree : ∀ y ∈ sc.names, y.2 ≠ .free
theorem bindL_out {kindOf : Str → Option NameKind} {x : Str} : ∀ {binds : List (Str × Value)} {m : Str → Option Value}, (∀ v, (x, v) ∉ binds) → bindL kindOf binds m x = m x
  | [], _, _ => rfl
  | (n, v) :: r, m, h => by
    unfold bindL
    rw [bindL_out fun w hw => h w (List.mem_cons_of_mem _ hw)]
    split
    · have : x ≠ n := by rintro rfl; exact h v List.mem_cons_self
      simp [this]
    · rfl
theorem bindC_out {kindOf : Str → Option NameKind} {x : Str} : ∀ {binds : List (Str × Value)} {m : Str → Option Value}, (∀ v, (x, v) ∉ binds) → bindC kindOf binds m x = m x
  | [], _, _ => rfl
  | (n, v) :: r, m, h => by
    unfold bindC
    rw [bindC_out fun w hw => h w (List.mem_cons_of_mem _ hw)]
    split
    · rfl
    · have : x ≠ n := by rintro rfl; exact h v List.mem_cons_self
      simp [this]
theorem bindL_get {kindOf : Str → Option NameKind} {x : Str} {v : Value} : ∀ {P : List Str} {vs : List Value} {i : Nat} {m : Str → Option Value}, P.Nodup → P[i]? = some x → vs[i]? = some v → kindOf x = some .local →
    bindL kindOf (P.zip vs) m x = some v
  | [], _, _, _, _, h, _, _ => by simp at h
  | _ :: _, [], _, _, _, _, h, _ => by simp at h
  | p :: P, w :: vs, 0, m, nd, h1, h2, hk => by
    simp at h1 h2; subst h1; subst h2
    show bindL kindOf ((p, w) :: P.zip vs) m p = _
    unfold bindL
    rw [bindL_out fun v hv => (List.nodup_cons.mp nd).1 (List.of_mem_zip hv).1, if_pos hk]
    simp
  | p :: P, w :: vs, i + 1, m, nd, h1, h2, hk => by
    show bindL kindOf ((p, w) :: P.zip vs) m x = _
    unfold bindL
    exact bindL_get (i := i) (List.nodup_cons.mp nd).2 (by simpa using h1) (by simpa using h2) hk
theorem bindC_get {kindOf : Str → Option NameKind} {x : Str} {v : Value} : ∀ {P : List Str} {vs : List Value} {i : Nat} {m : Str → Option Value}, P.Nodup → P[i]? = some x → vs[i]? = some v → kindOf x ≠ some .local →
    bindC kindOf (P.zip vs) m x = some v
  | [], _, _, _, _, h, _, _ => by simp at h
  | _ :: _, [], _, _, _, _, h, _ => by simp at h
  | p :: P, w :: vs, 0, m, nd, h1, h2, hk => by
    simp at h1 h2; subst h1; subst h2
    show bindC kindOf ((p, w) :: P.zip vs) m p = _
    unfold bindC
    rw [bindC_out fun v hv => (List.nodup_cons.mp nd).1 (List.of_mem_zip hv).1, if_neg hk]
    simp
  | p :: P, w :: vs, i + 1, m, nd, h1, h2, hk => by
    show bindC kindOf ((p, w) :: P.zip vs) m x = _
    unfold bindC
    exact bindC_get (i := i) (List.nodup_cons.mp nd).2 (by simpa using h1) (by simpa using h2) hk
def start (N : List Str) (vs : List V) : St := vs.map some ++ List.replicate (N.length - vs.length) none
def cxOf (CX : CXT) (P : Program) (w : World) (K : PySem.W.Frag) (mg : Str → Option Value) (base : Heap) (N : List Str) (qual : Str) (scope : Scope) (f : Addr) (cd : Value) (A : Around) (outer : List Env) (s : Shared) (H : Hp) (E : XK) : Cx where
  prog := P
  w := w
  K := K
  mg := mg
  base := base
  A := A.deeper (envOfC qual scope s.heap.objs.size f cd)
  N := N
  s₀ := s
  H₀ := H
  env := envOfC qual scope s.heap.objs.size f cd
  outer := outer
  stack := envOfC qual scope s.heap.objs.size f cd :: outer
  ex := []
  calm := true
  fn := fun _ => true
  pn := []
  xe := fun e s' => wpAny (model P w) (A.deeper (envOfC qual scope s.heap.objs.size f cd)) (leaving (envOfC qual scope s.heap.objs.size f cd) e) (fun _ s'' => CX outer H s E e s'') (fun e' s'' => CX outer H s E e' s'') s'
theorem cell_has {sc : Scope} {n : Nat} {x : Str} (h : sc.names.lookup x = some .cell) : ∃ c, (cellsFrom n sc.names []).lookup x = some c := by
  have q := PySem.W.cellsFrom_some sc.names n [] (.inl h)
  exact Option.isSome_iff_exists.mp q
theorem inv_start {CX : CXT} {P : Program} {w : World} {K : PySem.W.Frag} {mg : Str → Option Value} {base : Heap} {N ps : List Str} {qual : Str} {scope : Scope} {f : Addr} {cd : Value} {A : Around} {outer : List Env} {s s1 : Shared} {H : Hp} {E : XK} {us : List Value} {vs : List V}
    (S : FnScope N ps scope) (hd : A.handled = none) (e0 : Env0 P w K mg base A outer s H) (hl : vs.length = ps.length) (r : Vals vs us)
    (x : InCallC s s.heap.objs.size (bindL (envOfC qual scope s.heap.objs.size f cd).kindOf (ps.zip us) fun _ => none) (cellsFrom (s.heap.objs.size + 1) scope.names []) (bindC (envOfC qual scope s.heap.objs.size f cd).kindOf (ps.zip us) fun _ => none) s1) :
    Inv (cxOf CX P w K mg base N qual scope f cd A outer s H E) [] (start N vs) H s1 := by
  have hpl : ps.length ≤ N.length := by have := congrArg List.length S.pre; rw [List.length_take] at this; omega
  obtain ⟨h1, tk, rfl, hk⟩ := x.done
  have noA : ∀ b : Addr, b ∉ (cxOf CX P w K mg base N qual scope f cd A outer s H E).ex := fun b z => absurd (show b ∈ ([] : List Addr) from z) (by simp)
  refine ⟨⟨e0.mod, S.kind, rfl, rfl, Nat.le_refl _, fun y z c h1 h2 => ?_, fun y hy => ?_, fun y c _ h => ?_, fun _ => hd, Around.frames_deeper e0.frames, .inr ⟨rfl, rfl⟩, fun b z => absurd z (noA b), e0.bs, e0.bsz, fun b _ _ => noA b, fun b z => absurd z (noA b), e0.funs, e0.frf⟩,
    rfl, e0.bare, Un.kept hk, ⟨_, x.toInCall.ns, fun i y v h1 h2 h3 => ?_⟩, fun y c h => ⟨_, x.cell y c h⟩, e0.hok.fresh (Nat.le_refl _), fun y c h => ?_, fun p hp => absurd (show p ∈ ([] : List (Addr × Obj)) from hp) (by simp), e0.hok.kept hk, ?_⟩
  · exact name_of_addr x.apart (PySem.mem_of_lookup h1) (PySem.mem_of_lookup h2)
  · have hy : scope.names.lookup y = some .cell ∨ scope.names.lookup y = some .free := hy
    rcases hy with hy | hy
    · exact cell_has hy
    · exact absurd rfl (S.nofree _ (PySem.mem_of_lookup hy))
  · exact Nat.le_of_lt (x.above y c (PySem.mem_of_lookup h))
  · have hi : i < vs.length := by
      unfold start at h2
      by_cases hi : i < vs.length
      · exact hi
      · rw [List.getElem?_append_right (by simpa using hi)] at h2
        rw [List.getElem?_replicate] at h2
        split at h2 <;> cases h2
    have ha : vs[i]? = some v := by
      unfold start at h2
      rw [List.getElem?_append_left (by simpa using hi), List.getElem?_map] at h2
      cases e : vs[i]? with
      | none => rw [e] at h2; cases h2
      | some a => rw [e] at h2; cases h2; rfl
    obtain ⟨u, hu, rv⟩ := r.get ha
    have hp : ps[i]? = some y := by
      rw [← S.pre, List.getElem?_take_of_lt (by omega)]; exact h1
    have ndP : ps.Nodup := by rw [← S.pre]; exact S.nd.sublist (List.take_sublist _ _)
    refine ⟨u, rv, ?_⟩
    rcases S.par y (List.mem_of_getElem? hp) with k | k
    · exact .inl ⟨k, bindL_get ndP hp hu k⟩
    · obtain ⟨c, e⟩ := cell_has (n := s.heap.objs.size + 1) k
      refine .inr ⟨.inl k, c, e, ?_⟩
      have q := x.cell y c e
      rw [bindC_get ndP hp hu (by show scope.names.lookup y ≠ _; rw [k]; decide)] at q
      exact q
  · exact e0.hok.fresh (Nat.le_of_lt (x.above y c (PySem.mem_of_lookup h)))
  · unfold start
    show _ = N.length
    rw [List.length_append, List.length_map, List.length_replicate]
    omega
theorem fn_of {CX : CXT} {P : Program} {w : World} {K : PySem.W.Frag} {mg : Str → Option Value} {base : Heap} {k : Nat} {f : Addr} {name qual : Str} {params : Arguments} {body : List Stmt} {scope : Scope} {dV kV doc pm cdv ct oc : Value} {an od : Option Addr}
    {osl : Array (Option Value)} {N ps : List Str} {sp : Sp} (lk : K.lookup f = some ⟨oc, od, .func (PySem.W.fnOf name qual params body scope dV kV doc pm an cdv ct), osl⟩) (hcd : PySem.W.codeIn K cdv qual = true) (S : FnScope N ps scope)
    (len : ∀ vs H Q E, sp vs H Q E → vs.length = ps.length)
    (hbody : ∀ (A : Around) (outer : List Env) (s : Shared) (H : Hp) (vs : List V) (Q : VK) (E : XK), Room k (A.deeper (envOfC qual scope s.heap.objs.size f cdv)) → sp vs H Q E →
      ∃ t, PSs (cxOf CX P w K mg base N qual scope f cdv A outer s H E) body t ∧ t { nx := fun _ H' => Q .non H', rt := Q } (start N vs) H) :
    FnOk P w K mg base CX (k + 1) f (PySem.W.fnOf name qual params body scope dV kV doc pm an cdv ct) ps sp := by
  refine ⟨len, fun A outer s H args us vs Q E hr e0 hb r hsp => ?_⟩
  have hl := len _ _ _ _ hsp
  have KX : K.In s.heap := e0.mod.kin.keeps fun b o e => (e0.bs b o e).1
  have lim : s.heap.NoLimit := e0.mod.nolimit.keeps fun b o e => (e0.bs b o e).1
  have hkind : ∀ y ∈ ps.zip us, scope.names.lookup y.1 = some .local ∨ (scope.names.lookup y.1 = some .cell ∧ ((cellsFrom (s.heap.objs.size + 1) scope.names []).lookup y.1).isSome = true) := fun ⟨n, v⟩ hy => by
    rcases S.par n (List.of_mem_zip hy).1 with q | q
    · exact .inl q
    · exact .inr ⟨q, PySem.W.cellsFrom_some _ _ _ (.inl q)⟩
  refine codeAny_call_function hr.depth (KX _ _ lk) rfl S.co S.gen rfl (PySem.W.codeRec_of KX hcd) (hb _ _ _ _ ?_)
  refine wpAny_newFunctionEnv_cells S.kind hkind fun env he s1 x => ?_
  subst he
  refine ⟨lim.keeps x.toInCall.keep, codeAny_func ?_⟩
  obtain ⟨t, ht, hq⟩ := hbody A outer s H vs Q E (hr.deeper _) hsp
  have I : Inv (cxOf CX P w K mg base N qual scope f cdv A outer s H E) [] (start N vs) H s1 := inv_start S hr.hd e0 hl r x
  refine wpAny_mono (ht [] s1 (start N vs) H _ I hq) (fun fl s' hs => ?_) fun e s' hs => hs
  have fin : ∀ {σ' : St} {H' : Hp} {v : V} {u : Value}, Inv (cxOf CX P w K mg base N qual scope f cdv A outer s H E) [] σ' H' s' → RelV v u → Q v H' → CE outer P w H s Q u s' :=
    fun {σ' H' v u} J rv q => ⟨v, H', J.os, J.bare, J.base, J.hok, rv, q⟩
  cases fl with
  | ret u =>
    obtain ⟨v, σ', H', J, rv, q⟩ := hs
    exact fin J rv q
  | next =>
    obtain ⟨σ', H', J, q⟩ := hs
    exact fin (v := V.non) (u := Value.none) J rfl q
  | brk =>
    obtain ⟨_, _, _, q⟩ := hs
    exact False.elim q
  | cont =>
    obtain ⟨_, _, _, q⟩ := hs
    exact False.elim q
end L2
namespace L2
open PySem PySem.Spec PyProof.Rows
section
variable {X : Cx} {x : Str} {p pos : Pos} {e : Expr} {es : List Expr} {t : TA} {id T : String} {r : List V → Hp → VK → Prop}
def tCB (r : List V → Hp → VK → Prop) (t : TA) : TE := fun σ H Q => t σ H fun vs H1 => r vs H1 Q
theorem pe_callB (hc : CallR X (.builtin id) r) (hg : Gl X x) (hm : X.mg x = none) (hv : bootBuiltins x = some (.builtin id)) (ha : PA X (e :: es) t) (hn : x ≠ "__name__" := by decide) (hdb : (x == ("__debug__" : Str)) = false := by decide)
    (he : starEach (e :: es) X.env = (false, eval e X.env) :: starEach es X.env := by rfl) (hpl : (backTo pos (starEach es X.env)).any (·.1) = false := by rfl) : PE X (.Call (.Name x p) (e :: es) [] pos) (tCB r t) := by
  intro pins s σ H Q I h
  refine wpAny_Call_Name_kw (ld_blt I hg hm hv ?_ hn hdb)
  exact PyProof.Rows.callWith_builtin1 (thn (ha pos pins s σ H _ I h) fun us s1 ⟨vs, H1, I1, r1, q1⟩ => hc pins s1 σ H1 vs us Q I1 r1 q1) he hpl
theorem pe_callTy (hc : CallR X (.type T) r) (hg : Gl X x) (hm : X.mg x = none) (hv : bootBuiltins x = some (.type T)) (ha : PA X (e :: es) t) (hn : x ≠ "__name__" := by decide) (hdb : (x == ("__debug__" : Str)) = false := by decide)
    (he : starEach (e :: es) X.env = (false, eval e X.env) :: starEach es X.env := by rfl) (hpl : (backTo pos (starEach es X.env)).any (·.1) = false := by rfl) : PE X (.Call (.Name x p) (e :: es) [] pos) (tCB r t) := by
  intro pins s σ H Q I h
  refine wpAny_Call_Name_kw (ld_blt I hg hm hv ?_ hn hdb)
  exact PyProof.Rows.callWith_type1 (thn (ha pos pins s σ H _ I h) fun us s1 ⟨vs, H1, I1, r1, q1⟩ => hc pins s1 σ H1 vs us Q I1 r1 q1) he hpl
end
end L2
namespace HT
open PySem PyProof.Rows
section
open PySem.SeqAt
open PySem.AutoSeq1 (wpAny_loadPart')
open PySem.MeetsSeq PySem.MeetsSeq2 PySem.MeetsSeq3
end
section
variable {prog : Program} {w : World} {A : Around} {E : Value → Shared → Prop} {s : Shared}
/-! ### t[a:b], not the whole -/
def sIx (n d : Nat) : Option Int → Nat
  | none => d
  | some v => if v < 0 then (v + (n : Int)).toNat else min v.toNat n
end
end HT
namespace L2
open PySem PySem.Spec PyProof.Rows
/-! ### the parts of a slice -/
abbrev TO := St → Hp → (Option Int → Hp → Prop) → Prop
def PO (X : Cx) (e : Option Expr) (t : TO) : Prop :=
  ∀ (pins : List (Addr × Obj)) (s : Shared) (σ : St) (H : Hp) (Q : Option Int → Hp → Prop), Inv X pins σ H s → t σ H Q →
    wpAny (model X.prog X.w) X.A (evalPart e X.env) (fun u s' => ∃ o H', Inv X pins σ H' s' ∧ IsPart u o ∧ Q o H') X.xe s
def tNoPart : TO := fun _ H Q => Q none H
def tPart (t : TE) : TO := fun σ H Q => t σ H fun x H1 => ∃ i, x = .int i ∧ Q (some i) H1
section
variable {X : Cx} {e : Expr} {te : TE} {lo hi : Option Expr} {tl th : TO} {pos p2 : Pos}
theorem po_none : PO X none tNoPart := by
  intro pins s σ H Q I h
  rw [evalPart_none]
  exact wpAny_pure ⟨none, H, I, .none, h⟩
theorem po_some (h : PE X e te) : PO X (some e) (tPart te) := by
  intro pins s σ H Q I hw
  rw [evalPart_some]
  refine thn (h pins s σ H _ I hw) fun u s1 ⟨x, H1, I1, r1, q1⟩ => ?_
  obtain ⟨i, rfl, q⟩ := q1
  obtain ⟨t, rfl⟩ := r1
  exact ⟨some i, H1, I1, .int i t, q⟩
def SlR (X : Cx) (r : V → Option Int → Option Int → Hp → VK → Prop) : Prop :=
  ∀ (pins : List (Addr × Obj)) (s : Shared) (σ : St) (H : Hp) (x : V) (v vl vu : Value) (lo hi : Option Int) (sl : Addr) (Q : VK), Inv X pins σ H s → RelV x v → s.heap.IsSliceOf sl vl vu .none → IsPart vl lo → IsPart vu hi → r x lo hi H Q →
    ∃ T id, typeLookup (.type T) "__getitem__" = pure (some (.builtin id)) ∧ s.TypeIs v T ∧ wpAny (model X.prog X.w) X.A (getItem v (.ref sl)) (EP X pins σ Q) X.xe s
def tSl (r : V → Option Int → Option Int → Hp → VK → Prop) (te : TE) (tl th : TO) : TE := fun σ H Q => te σ H fun x H1 => tl σ H1 fun l H2 => th σ H2 fun u H3 => r x l u H3 Q
theorem pe_slice {r : V → Option Int → Option Int → Hp → VK → Prop} (hr : SlR X r) (he : PE X e te) (hl : PO X lo tl) (hu : PO X hi th) : PE X (.Subscript e (.Slice lo hi none p2) pos) (tSl r te tl th) := by
  intro pins s σ H Q I h
  refine Subscript_ (thn (he pins s σ H _ I h) fun v s1 ⟨x, H1, I1, r1, q1⟩ => ?_)
  refine wpAny_Slice (thn (hl pins s1 σ H1 _ I1 q1) fun vl s2 ⟨l, H2, I2, pl, q2⟩ => thn (hu pins s2 σ H2 _ I2 q2) fun vu s3 ⟨u, H3, I3, pu, q3⟩ => ?_)
  rw [evalPart_none]
  refine wpAny_pure ?_
  have I4 : Inv X pins σ H3 { s3 with heap := s3.heap.push { cls := .type "slice", data := .fields #[vl, vu, .none] } } := I3.kept (t' := s3.toks) fun b ob q => Heap.get?_push_of_some _ q
  obtain ⟨T, id, hT, ht, hg⟩ := hr pins { s3 with heap := s3.heap.push { cls := .type "slice", data := .fields #[vl, vu, .none] } } σ H3 x v vl vu l u s3.heap.objs.size Q I4 r1 (Heap.IsSliceOf.new ..) pl pu q3
  show wpAny (model X.prog X.w) X.A (subscriptTail e (.Slice lo hi none p2) v (.ref s3.heap.objs.size)) (EP X pins σ Q) X.xe { s3 with heap := s3.heap.push { cls := .type "slice", data := .fields #[vl, vu, .none] } }
  exact tail_any (ops := [.ref s3.heap.objs.size, v]) ht hT hg (by with_unfolding_all rfl)
def cutV (xs : List V) (lo hi : Option Int) : List V := (xs.drop (HT.sIx xs.length 0 lo)).take (HT.sIx xs.length xs.length hi - HT.sIx xs.length 0 lo)
theorem cutV_length (xs : List V) (lo hi : Option Int) : (cutV xs lo hi).length ≤ xs.length := by
  unfold cutV
  rw [List.length_take, List.length_drop]
  omega
end
end L2
namespace L2
open PySem PySem.Spec PyProof.Rows
/-! ### places -/
def ixN (n : Nat) (i : Int) : Option Nat := if 0 ≤ i then (if i < n then some i.toNat else none) else if -(n : Int) ≤ i then some (i + n).toNat else none
def atI {α : Type} (xs : List α) (i : Int) : Option α := (ixN xs.length i).bind fun j => xs[j]?
theorem ixN_seq {n : Nat} {i : Int} {j : Nat} (h : ixN n i = some j) : seqIndex? i n = some j ∧ j < n ∧ -(n : Int) ≤ i ∧ i < n := by
  unfold ixN at h
  by_cases h0 : 0 ≤ i
  · rw [if_pos h0] at h
    by_cases h1 : i < n
    · rw [if_pos h1] at h
      have e : i.toNat = j := Option.some.inj h
      exact ⟨by rw [seqIndex_of h0 h1, e], by omega, by omega, h1⟩
    · rw [if_neg h1] at h; cases h
  · rw [if_neg h0] at h
    by_cases h1 : -(n : Int) ≤ i
    · rw [if_pos h1] at h
      have e : (i + n).toNat = j := Option.some.inj h
      exact ⟨by rw [seqIndex_neg (by omega) h1, e], by omega, h1, by omega⟩
    · rw [if_neg h1] at h; cases h
theorem atI_get {α : Type} {xs : List α} {i : Int} {v : α} (h : atI xs i = some v) : ∃ j, seqIndex? i xs.length = some j ∧ xs[j]? = some v ∧ j < xs.length ∧ -(xs.length : Int) ≤ i ∧ i < xs.length := by
  unfold atI at h
  cases e : ixN xs.length i with
  | none => rw [e] at h; cases h
  | some j =>
    rw [e] at h
    obtain ⟨h1, h2, h3, h4⟩ := ixN_seq e
    exact ⟨j, h1, h, h2, h3, h4⟩
theorem atI_nat {α : Type} {xs : List α} {j : Nat} {v : α} (h : xs[j]? = some v) : atI xs (j : Int) = some v := by
  have hj : j < xs.length := (List.getElem?_eq_some_iff.mp h).1
  have e : ixN xs.length (j : Int) = some j := by
    unfold ixN
    rw [if_pos (by omega), if_pos (by omega)]; simp
  unfold atI; rw [e]; exact h
/-! ### what may be subscripted -/
def PlainIx (b : Expr) : Prop := ∀ o i, subscripted b false o i = operate [o, i] (getItem o i)
def IxR (X : Cx) (r : R2) : Prop :=
  ∀ (value slice : Expr) (pins : List (Addr × Obj)) (s : Shared) (σ : St) (H : Hp) (x y : V) (v u : Value) (Q : VK), Inv X pins σ H s → RelV x v → RelV y u → r x y H Q →
    subscripted slice false v u = operate [v, u] (getItem v u) → wpAny (model X.prog X.w) X.A (subscriptTail value slice v u) (EP X pins σ Q) X.xe s
def MtR (X : Cx) (id : String) (r : V → List V → Hp → VK → Prop) : Prop :=
  ∀ (pins : List (Addr × Obj)) (s : Shared) (σ : St) (H : Hp) (x : V) (xs : List V) (v : Value) (us : List Value) (Q : VK), Inv X pins σ H s → RelV x v → Vals xs us → r x xs H Q →
    wpAny (model X.prog X.w) X.A (call (.builtin id) (v :: us)) (EP X pins σ Q) X.xe s
section
variable {X : Cx} {a b : Expr} {ta tb : TE} {pos : Pos}
theorem pe_ix {r : R2} (hr : IxR X r) (ha : PE X a ta) (hb : PE X b tb) (hs : PlainIx b) : PE X (.Subscript a b pos) (tOp r ta tb) := by
  intro pins s σ H Q I h
  exact Subscript_ (binT ha hb I h fun v u s2 x y H2 I2 rx ry q => hr a b pins s2 σ H2 x y v u Q I2 rx ry q (hs _ _))
def rIxL (K : PySem.W.Frag) : R2 := fun x y H Q => ∃ p xs i v, x = .ref p ∧ y = .int i ∧ SqL K H p xs ∧ atI xs i = some v ∧ Q v H
def rIxT (K : PySem.W.Frag) : R2 := fun x y H Q => ∃ p xs i v, x = .ref p ∧ y = .int i ∧ SqT K H p xs ∧ atI xs i = some v ∧ Q v H
def rIxS : R2 := fun x y H Q => ∃ z i c, x = .str z ∧ y = .int i ∧ z.length ≤ sizeLine ∧ atI z.cps.toList i = some c ∧ Q (.str ⟨#[c]⟩) H
theorem ix_list : IxR X (rIxL X.K) := by
  intro value slice pins s σ H x y v u Q I rx ry h hs
  obtain ⟨p, xs, i, z, rfl, rfl, hq, he, q⟩ := h
  cases rx
  obtain ⟨t, rfl⟩ := ry
  obtain ⟨its, r, pl, hz⟩ := I.list hq
  obtain ⟨j, h1, h2, h3, h4, h5⟩ := atI_get he
  obtain ⟨w, ew, rw'⟩ := r.get h2
  have hl := r.length
  have hn := line63
  have fin : EP X pins σ Q w s := ⟨z, H, I, rw', q⟩
  by_cases h0 : 0 ≤ i
  · have hj : i.toNat = j := by
      rw [seqIndex_of h0 h5] at h1
      exact Option.some.inj h1
    exact item_listR pl.isList h0 (by omega) (by rw [hj]; simpa using ew) fin hs
  · have hj : (i + (its.toArray.size : Int)).toNat = j := by
      rw [seqIndex_neg (by omega) h4] at h1
      rw [List.size_toArray, ← hl]
      exact Option.some.inj h1
    exact subscriptTail_builtinR (x := w) pl.isList.typeIs slot_list_getitem.lookup
      (wpAny_getItem_list_neg (Q := fun r s' => r = w ∧ EP X pins σ Q r s') pl.isList (by omega) (by rw [List.size_toArray] <;> omega) (by omega) (by rw [hj]; simpa using ew) ⟨rfl, fin⟩) hs
theorem ix_tup : IxR X (rIxT X.K) := by
  intro value slice pins s σ H x y v u Q I rx ry h hs
  obtain ⟨p, xs, i, z, rfl, rfl, hq, he, q⟩ := h
  cases rx
  obtain ⟨t, rfl⟩ := ry
  obtain ⟨its, r, pl, hz⟩ := I.tuple hq
  obtain ⟨j, h1, h2, h3, h4, h5⟩ := atI_get he
  obtain ⟨w, ew, rw'⟩ := r.get h2
  have hl := r.length
  have hn := line63
  have fin : EP X pins σ Q w s := ⟨z, H, I, rw', q⟩
  exact subscriptTail_builtinR (x := w) pl.typeIs slot_tuple_getitem.lookup
    (getItem_tuple (j := j) (Q := fun r s' => r = w ∧ EP X pins σ Q r s') pl (by omega) (by omega) (by rw [List.size_toArray, ← hl]; exact h1) (by simpa using ew) ⟨rfl, fin⟩) hs
theorem ix_str : IxR X rIxS := by
  intro value slice pins s σ H x y v u Q I rx ry h hs
  obtain ⟨z, i, c, rfl, rfl, hz, he, q⟩ := h
  obtain ⟨t, rfl⟩ := rx
  obtain ⟨t', rfl⟩ := ry
  obtain ⟨j, h1, h2, h3, h4, h5⟩ := atI_get he
  have hl : z.cps.toList.length = z.length := by simp [Str.length]
  rw [hl] at h1 h4 h5
  have hn := line63
  exact tail_any (typeIs_str s z t) slot_str_getitem.lookup (getItem_str (c := c) (by
    have e1 : decide (i < -(2 ^ 63 : Int)) = false := decide_eq_false (by omega)
    have e2 : decide (i ≥ 2 ^ 63) = false := decide_eq_false (by omega)
    rw [e1, e2, Bool.or_false]) (by rw [h1]; simpa using h2) ⟨.str ⟨#[c]⟩, H, I.tok _, ⟨_, rfl⟩, q⟩) hs
/-! ### xs[i] = v, any sign -/
theorem mapSeq_set (its : List Value) (n j : Nat) (u : Value) : Obj.mapSeq (·.setIfInBounds j u) { cls := .type "list", data := .seq its.toArray n } = { cls := .type "list", data := .seq (its.set j u).toArray n } := by
  simp [Obj.mapSeq]
theorem Inv.lst {pins : List (Addr × Obj)} {σ : St} {H : Hp} {s : Shared} {p : Addr} {xs : List V} (I : Inv X pins σ H s) (h : H p = some (.lst xs)) :
    ∃ (its : List Value) (n : Nat), Vals xs its ∧ s.heap.get? p = some { cls := .type "list", data := .seq its.toArray n } ∧ xs.length ≤ sizeLine := by
  obtain ⟨z, its, n, r, e⟩ := I.hok p _ h
  exact ⟨its, n, r, e, z⟩
theorem Inv.lstUpd {pins : List (Addr × Obj)} {σ : St} {H : Hp} {s : Shared} {p : Addr} {xs ys : List V} {its its' : List Value} {n n' : Nat} {f : Obj → Obj} (I : Inv X pins σ H s) (h : H p = some (.lst xs))
    (ho : s.heap.get? p = some { cls := .type "list", data := .seq its.toArray n }) (hf : f { cls := .type "list", data := .seq its.toArray n } = { cls := .type "list", data := .seq its'.toArray n' }) (r : Vals ys its') (hz : ys.length ≤ sizeLine) (t : Nat) :
    Inv X pins σ (upd H p (.lst ys)) { s with heap := s.heap.update p f, toks := t } := by
  have e : (s.heap.update p f).get? p = some { cls := .type "list", data := .seq its'.toArray n' } := by
    rw [Heap.get?_update_self f ho (by rw [hf] <;> rfl), hf]
  refine I.write (x := p) (e := p) (by rw [h]; trivial) (.inl rfl) (fun b u hb q => (Heap.get?_update_other _ _ (Ne.symm hb)).trans q) ⟨_, e⟩ ?_
  exact ⟨hz, its', n', r, e⟩
def rSetL : V → V → V → Hp → (Hp → Prop) → Prop := fun o i v H Q => ∃ p xs k j, o = .ref p ∧ i = .int k ∧ H p = some (.lst xs) ∧ ixN xs.length k = some j ∧ Q (upd H p (.lst (xs.set j v)))
theorem set_list : PSet X rSetL := by
  intro pins s σ H o i v ov iv u Q I ro ri rv h
  obtain ⟨p, xs, k, j, rfl, rfl, hp, hj, q⟩ := h
  cases ro
  obtain ⟨t, rfl⟩ := ri
  obtain ⟨its, n, r, ho, hz⟩ := I.lst hp
  obtain ⟨h1, h2, h3, h4⟩ := ixN_seq hj
  have hl := r.length
  have hn := line63
  have I' : Inv X pins σ (upd H p (.lst (xs.set j v))) { s with heap := s.heap.update p (Obj.mapSeq (·.setIfInBounds j u)) } :=
    I.lstUpd hp ho (mapSeq_set its n j u) (r.set rv j) (by rw [List.length_set]; exact hz) s.toks
  by_cases h0 : 0 ≤ k
  · have hk : k.toNat = j := by
      rw [seqIndex_of h0 h4] at h1
      exact Option.some.inj h1
    exact PySem.W.ki_setAt ho h0 (by omega) (by rw [List.size_toArray, ← hl]; exact h4) (by rw [hk]; exact ⟨_, I', q⟩)
  · have hk : (k + (its.toArray.size : Int)).toNat = j := by
      rw [seqIndex_neg (by omega) h3] at h1
      rw [List.size_toArray, ← hl]
      exact Option.some.inj h1
    exact PySem.W.ki_setBack ho (by omega) (by rw [List.size_toArray, ← hl]; exact h3) (by omega) (by rw [hk]; exact ⟨_, I', q⟩)
/-! ### slices -/
theorem slice_bounds (lo hi : Option Int) (n : Nat) : (sliceBounds lo hi none n).1 = ((HT.sIx n 0 lo : Nat) : Int) ∧ (sliceBounds lo hi none n).2.1 = ((HT.sIx n n hi : Nat) : Int) ∧ (sliceBounds lo hi none n).2.2 = 1 := by
  refine ⟨?_, ?_, rfl⟩
  · cases lo with
    | none => simp [sliceBounds, HT.sIx]
    | some i =>
      simp only [sliceBounds, HT.sIx, Option.getD_none, show (1 : Int) > 0 by decide, if_true]
      by_cases h : i < 0
      · simp only [h, if_true] <;> omega
      · simp only [h, if_false] <;> omega
  · cases hi with
    | none => simp [sliceBounds, HT.sIx]
    | some i =>
      simp only [sliceBounds, HT.sIx, Option.getD_none, show (1 : Int) > 0 by decide, if_true]
      by_cases h : i < 0
      · simp only [h, if_true] <;> omega
      · simp only [h, if_false] <;> omega
theorem slicePick_cut (its : List Value) (lo hi : Option Int) : slicePick its.toArray lo hi none = ((its.drop (HT.sIx its.length 0 lo)).take (HT.sIx its.length its.length hi - HT.sIx its.length 0 lo)).toArray := by
  obtain ⟨h1, h2, h3⟩ := slice_bounds lo hi its.toArray.size
  unfold slicePick
  rw [h1, h2, h3]
  simp only [sliceRange_one, pick_run, List.size_toArray] <;> rfl
def rSlL (K : PySem.W.Frag) : V → Option Int → Option Int → Hp → VK → Prop := fun x lo hi H Q => ∃ a xs, x = .ref a ∧ SqL K H a xs ∧ ∀ p, H p = none → Q (.ref p) (upd H p (.lst (cutV xs lo hi)))
theorem sl_list : SlR X (rSlL X.K) := by
  intro pins s σ H x v vl vu lo hi sl Q I rx hs pl pu h
  obtain ⟨a, xs, rfl, hx, q⟩ := h
  cases rx
  obtain ⟨its, r, ht, hz⟩ := I.list hx
  have hlen := r.length
  refine ⟨"list", _, slot_list_getitem.lookup, ht.isList.typeIs, ?_⟩
  refine wpAny_getItem_list_slice ht.isList hs pl pu .none (by simp) ?_ (by rw [List.size_toArray] <;> omega)
  rw [slicePick_cut, ← hlen]
  refine ⟨.ref s.heap.objs.size, _, I.laid (t' := s.toks) (o := .lst (cutV xs lo hi)) (fun b ob q => Heap.get?_push_of_some _ q) (Nat.le_refl _) ?_, rfl, q _ (I.hok.fresh (Nat.le_refl _))⟩
  exact ⟨Nat.le_trans (cutV_length xs lo hi) hz, _, 0, (r.drop (HT.sIx xs.length 0 lo)).take (HT.sIx xs.length xs.length hi - HT.sIx xs.length 0 lo), Heap.get?_push_size _ rfl⟩
/-! ### in, not in: flat items -/
def flatV : V → Bool
  | .non => true
  | .bl _ => true
  | .int _ => true
  | .str _ => true
  | _ => false
def eqV : V → V → Bool
  | .non, .non => true
  | .bl a, .bl b => a == b
  | .bl a, .int b => (if a then 1 else 0) == b
  | .int a, .bl b => a == (if b then 1 else 0)
  | .int a, .int b => a == b
  | .str a, .str b => a == b
  | _, _ => false
theorem eqAt_V {A : Around} {s : Shared} {y x : V} {u v : Value} (ry : RelV y u) (rx : RelV x v) (fy : flatV y = true) (fx : flatV x = true) : SeqAt.EqAt A s u v (eqV y x) := by
  cases y with
  | non =>
    cases ry
    cases x with
    | non => cases rx; exact SeqAt.EqAt.same _
    | bl b => cases rx; exact SeqAt.EqAt.none_bool b
    | int b => obtain ⟨t, rfl⟩ := rx; exact SeqAt.EqAt.none_int b t
    | str b => obtain ⟨t, rfl⟩ := rx; exact SeqAt.EqAt.none_str b t
    | _ => exact absurd (show false = true from fx) Bool.false_ne_true
  | bl a =>
    cases ry
    cases x with
    | non => cases rx; exact SeqAt.EqAt.bool_none a
    | bl b => cases rx; exact SeqAt.EqAt.bool_bool a b
    | int b => obtain ⟨t, rfl⟩ := rx; exact SeqAt.EqAt.bool_int a b t
    | str b => obtain ⟨t, rfl⟩ := rx; exact SeqAt.EqAt.bool_str a b t
    | _ => exact absurd (show false = true from fx) Bool.false_ne_true
  | int a =>
    obtain ⟨t', rfl⟩ := ry
    cases x with
    | non => cases rx; exact SeqAt.EqAt.int_none a t'
    | bl b => cases rx; exact SeqAt.EqAt.int_bool a t' b
    | int b => obtain ⟨t, rfl⟩ := rx; exact SeqAt.EqAt.int_int a t' b t
    | str b => obtain ⟨t, rfl⟩ := rx; exact SeqAt.EqAt.int_str a t' b t
    | _ => exact absurd (show false = true from fx) Bool.false_ne_true
  | str a =>
    obtain ⟨t', rfl⟩ := ry
    cases x with
    | non => cases rx; exact SeqAt.EqAt.str_none a t'
    | bl b => cases rx; exact SeqAt.EqAt.str_bool a t' b
    | int b => obtain ⟨t, rfl⟩ := rx; exact SeqAt.EqAt.str_int a t' b t
    | str b => obtain ⟨t, rfl⟩ := rx; exact SeqAt.EqAt.str_str a t' b t
    | _ => exact absurd (show false = true from fx) Bool.false_ne_true
  | _ => exact absurd (show false = true from fy) Bool.false_ne_true
def eqU (x : V) (u : Value) : Bool := match u with
  | .none => eqV .non x
  | .bool b => eqV (.bl b) x
  | .int i _ => eqV (.int i) x
  | .str z _ => eqV (.str z) x
  | _ => false
theorem eqU_of {x y : V} {u : Value} (r : RelV y u) (f : flatV y = true) : eqU x u = eqV y x := by
  cases y with
  | non => cases r; rfl
  | bl b => cases r; rfl
  | int i => obtain ⟨t, rfl⟩ := r; rfl
  | str z => obtain ⟨t, rfl⟩ := r; rfl
  | _ => exact absurd (show false = true from f) Bool.false_ne_true
theorem any_eqU {x : V} : ∀ {xs : List V} {us : List Value}, Vals xs us → xs.all flatV = true → us.any (eqU x) = xs.any fun y => eqV y x
  | _, _, .nil, _ => rfl
  | y :: xs, u :: us, .cons r t, f => by
    rw [List.all_cons, Bool.and_eq_true] at f
    rw [List.any_cons, List.any_cons, eqU_of r f.1, any_eqU t f.2]
theorem mem_eqAt {A : Around} {s : Shared} {x : V} {v : Value} (rx : RelV x v) (fx : flatV x = true) : ∀ {xs : List V} {us : List Value}, Vals xs us → xs.all flatV = true → ∀ u ∈ us, SeqAt.EqAt A s u v (eqU x u)
  | _, _, .nil, _ => fun u hu => by cases hu
  | y :: xs, u :: us, .cons r t, f => fun u' hu => by
    rw [List.all_cons, Bool.and_eq_true] at f
    rcases List.mem_cons.mp hu with rfl | hu
    · rw [eqU_of r f.1]; exact eqAt_V r rx f.1 fx
    · exact mem_eqAt rx fx t f.2 u' hu
def inV (x : V) (xs : List V) : Bool := xs.any fun y => eqV y x
def rIn (K : PySem.W.Frag) (neg : Bool) : R2 := fun x y H Q => ∃ p xs, y = .ref p ∧ (SqL K H p xs ∨ SqT K H p xs) ∧ flatV x = true ∧ xs.all flatV = true ∧ Q (.bl (if neg then !inV x xs else inV x xs)) H
theorem op_notIn_seq : OpR X (compareOp .NotIn) (rIn X.K true) := by
  intro pins s σ H x y v u Q I rx ry h
  obtain ⟨p, xs, rfl, hq, fx, fs, q⟩ := h
  cases ry
  rcases hq with hq | hq
  · obtain ⟨its, r, pl, hz⟩ := I.list hq
    refine SeqAt.notIn_listAt (eqU x) pl.isList (fun w hw => mem_eqAt rx fx r fs w (by simpa using hw)) ⟨.bl _, H, I, rfl, ?_⟩
    rw [show its.toArray.any (eqU x) = its.any (eqU x) by simp, any_eqU r fs]
    exact q
  · obtain ⟨its, r, pl, hz⟩ := I.tuple hq
    refine SeqAt.notIn_tupleAt (eqU x) pl (fun w hw => mem_eqAt rx fx r fs w (by simpa using hw)) ⟨.bl _, H, I, rfl, ?_⟩
    rw [show its.toArray.any (eqU x) = its.any (eqU x) by simp, any_eqU r fs]
    exact q
theorem op_notIn_str : OpR X (compareOp .NotIn) (fun x y H Q => ∃ i j, x = .str i ∧ y = .str j ∧ Q (.bl (!(!(Builtin.Str.occurrences j i 0 j.length 1).isEmpty))) H) := by
  intro pins s σ H x y v u Q I rx ry h
  obtain ⟨i, j, rfl, rfl, q⟩ := h
  obtain ⟨t, rfl⟩ := rx
  obtain ⟨t', rfl⟩ := ry
  exact notIn_str ⟨.bl _, H, I, rfl, q⟩
/-! ### the call of a builtin's method: o.m(..) -/
def tyV (K : PySem.W.Frag) (T : String) (x : V) (H : Hp) : Prop := match x with
  | .str _ => T = "str"
  | .int _ => T = "int"
  | .ref p => (T = "list" ∧ ∃ xs, SqL K H p xs) ∨ (T = "tuple" ∧ ∃ o, K.lookup p = some o ∧ o.cls = .type "tuple" ∧ o.dict = none) ∨
      (T = "dict" ∧ ((∃ kvs, H p = some (.dK kvs)) ∨ ∃ kvs, H p = some (.dT kvs))) ∨ (T = "set" ∧ ∃ S n, H p = some (.set S n))
  | _ => False
theorem tyV_is {pins : List (Addr × Obj)} {σ : St} {H : Hp} {s : Shared} {T : String} {x : V} {v : Value} (I : Inv X pins σ H s) (r : RelV x v) (ty : tyV X.K T x H) :
    s.TypeIs v T ∧ ∀ a, v = .ref a → ∃ ob, s.heap.get? a = some ob ∧ ob.dict = none := by
  cases x with
  | str z =>
    obtain ⟨t, rfl⟩ := r
    cases (show T = "str" from ty)
    exact ⟨typeIs_str s z t, fun _ e => nomatch e⟩
  | int i =>
    obtain ⟨t, rfl⟩ := r
    cases (show T = "int" from ty)
    exact ⟨typeIs_int s i t, fun _ e => nomatch e⟩
  | ref p =>
    cases r
    rcases ty with ⟨rfl, xs, hq⟩ | ⟨rfl, o, hk, hc, hd⟩ | ⟨rfl, hk⟩ | ⟨rfl, S, n, hk⟩
    · obtain ⟨its, _, pl, _⟩ := I.list hq
      refine ⟨pl.isList.typeIs, fun a e => ?_⟩
      cases e
      obtain ⟨o, n, e, c, hd, _⟩ := pl
      exact ⟨o, e, hd⟩
    · refine ⟨⟨o, I.kIn p o hk, hc⟩, fun a e => ?_⟩
      cases e
      exact ⟨o, I.kIn _ o hk, hd⟩
    · have z : ∃ o, s.heap.get? p = some o ∧ o.ExactDict := by
        rcases hk with ⟨kvs, hk⟩ | ⟨kvs, hk⟩
        · obtain ⟨_, _, _, _, o, _, _, e, ex, _⟩ := I.hok p _ hk
          exact ⟨o, e, ex⟩
        · obtain ⟨_, _, _, _, o, _, _, e, ex, _⟩ := I.hok p _ hk
          exact ⟨o, e, ex⟩
      obtain ⟨o, e, ex⟩ := z
      refine ⟨⟨o, e, ex.1⟩, fun a e2 => ?_⟩
      cases e2
      exact ⟨o, e, ex.2.1⟩
    · obtain ⟨o, _, _, _, e, ex, _⟩ := I.hok p _ hk
      refine ⟨⟨o, e, ex.1⟩, fun a e2 => ?_⟩
      cases e2
      exact ⟨o, e, ex.2.1⟩
  | _ => exact False.elim ty
def tBM0 (K : PySem.W.Frag) (T : String) (r : V → List V → Hp → VK → Prop) (to : TE) : TE := fun σ H Q => to σ H fun x H1 => tyV K T x H1 ∧ r x [] H1 Q
def tBM (K : PySem.W.Frag) (T : String) (r : V → List V → Hp → VK → Prop) (to : TE) (t : TA) : TE := fun σ H Q => to σ H fun x H1 => tyV K T x H1 ∧ t σ H1 fun xs H2 => r x xs H2 Q
variable {o e : Expr} {es : List Expr} {to : TE} {t : TA} {name : Str} {apos cpos : Pos} {T id : String} {r : V → List V → Hp → VK → Prop}
theorem pe_bm0 (pa : PlainAttrs T) (slot : Slot T name id) (hty : typeOf (.builtin id) = pure (.type "method_descriptor")) (hm : MtR X id r) (ho : PE X o to)
    (hbase : attributeBase o name X.env (eval o X.env) = eval o X.env := by rfl) (hline : (apos.endLine == cpos.line) = true := by rfl) : PE X (.Call (.Attribute o name apos) [] [] cpos) (tBM0 X.K T r to) := by
  intro pins s σ H Q I h
  refine wpAny_Call_method0_late hbase hline (thn (ho pins s σ H _ I h) fun v s1 ⟨x, H1, I1, r1, ty, q1⟩ => ?_)
  obtain ⟨h1, h2⟩ := tyV_is I1 r1 ty
  exact ⟨T, id, pa, slot, hty, h1, h2, Calls.callWith_builtin rfl (PySem.evalArgs_none (hm pins s1 σ H1 x [] v [] Q I1 r1 .nil q1))⟩
theorem pe_bm (pa : PlainAttrs T) (slot : Slot T name id) (hty : typeOf (.builtin id) = pure (.type "method_descriptor")) (hm : MtR X id r) (ho : PE X o to) (ha : PA X (e :: es) t)
    (hbase : attributeBase o name X.env (eval o X.env) = eval o X.env := by rfl)
    (hfew : ((backTo cpos (starEach (e :: es) X.env)).all (fun x => !x.1) && (backToKw cpos (keywordEach [] X.env)).all (fun x => x.1.isSome)
      && decide ((e :: es).length + ([] : List Keyword).length + (if ([] : List Keyword).isEmpty then 0 else 1) < 30)) = true := by rfl)
    (hline : (apos.endLine == cpos.line) = true := by rfl) (hs : starEach (e :: es) X.env = (false, eval e X.env) :: starEach es X.env := by rfl) (hplain : (backTo cpos (starEach es X.env)).any (·.1) = false := by rfl) :
    PE X (.Call (.Attribute o name apos) (e :: es) [] cpos) (tBM X.K T r to t) := by
  intro pins s σ H Q I h
  refine wpAny_Call_method_late hbase hfew hline rfl (thn (ho pins s σ H _ I h) fun v s1 ⟨x, H1, I1, r1, ty, q1⟩ => ?_)
  obtain ⟨h1, h2⟩ := tyV_is I1 r1 ty
  refine ⟨T, id, pa, slot, hty, h1, h2, ?_⟩
  have hA := ha cpos pins s1 σ H1 _ I1 q1
  rw [hs] at hA ⊢
  refine Calls.callWith_builtin (by show (false || (backTo cpos (starEach es X.env)).any (·.1)) = false; rw [hplain] <;> rfl) (Calls.evalArgs_plain ?_)
  exact thn hA fun us s2 ⟨vs, H2, I2, r2, q2⟩ => hm pins s2 σ H2 x vs v us Q I2 r1 r2 q2
/- xs.append(e), list.index on a module's tuple .. are MtR facts of 06m -/
end
end L2
namespace L2
open PySem PySem.Spec PyProof.Rows
def MtM (X : Cx) (id : String) (r : V → List V → Hp → VK → Prop) : Prop :=
  ∀ (pins : List (Addr × Obj)) (s : Shared) (σ : St) (H : Hp) (x : V) (xs : List V) (v : Value) (us : List Value) (Q : VK), Inv X pins σ H s → RelV x v → Vals xs us → r x xs H Q →
    wpAny (model X.prog X.w) X.A (call (.builtin id) (v :: us)) (EP X pins σ Q) X.xe s
/-! ### lists of values -/
theorem Vals.one : ∀ {x : V} {us : List Value}, Vals [x] us → ∃ u, us = [u] ∧ RelV x u
  | _, _, .cons r .nil => ⟨_, rfl, r⟩
theorem Vals.zero : ∀ {us : List Value}, Vals [] us → us = []
  | _, .nil => rfl
theorem Vals.reverse {xs : List V} {us : List Value} (h : Vals xs us) : Vals xs.reverse us.reverse := by
  induction h with
  | nil => exact .nil
  | cons r t ih => rw [List.reverse_cons, List.reverse_cons]; exact Vals.append ih (.cons r .nil)
theorem Vals.rep {xs : List V} {us : List Value} (h : Vals xs us) : ∀ k : Nat, Vals (List.replicate k xs).flatten (List.replicate k us).flatten
  | 0 => .nil
  | k + 1 => by
    rw [List.replicate_succ, List.replicate_succ, List.flatten_cons, List.flatten_cons]
    exact Vals.append h (Vals.rep h k)
theorem foldl_rep (its : List Value) : ∀ (k : Nat) (acc : List Value),
    List.foldl (fun x1 x2 => x1 ++ x2) acc.toArray (List.replicate k its.toArray) = (acc ++ (List.replicate k its).flatten).toArray
  | 0, acc => by simp
  | k + 1, acc => by
    have e : acc.toArray ++ its.toArray = (acc ++ its).toArray := by simp
    have e2 : (acc ++ its) ++ (List.replicate k its).flatten = acc ++ (List.replicate (k + 1) its).flatten := by
      rw [List.replicate_succ, List.flatten_cons, List.append_assoc]
    rw [← e2, ← foldl_rep its k (acc ++ its), ← e, List.replicate_succ, List.foldl_cons]
section
variable {X : Cx} {pins : List (Addr × Obj)} {σ : St} {H : Hp} {s : Shared} {l b : Addr} {xs ys zs : List V}
/-! ### the two steps: a tracked list is rewritten, a new list is laid -/
theorem Inv.lset {its its' : List Value} {n : Nat} {f : Array Value → Array Value} {t' : Nat} (I : Inv X pins σ H s) (hH : H l = some (.lst xs))
    (e : s.heap.get? l = some { cls := .type "list", data := .seq its.toArray n }) (hf : f its.toArray = its'.toArray) (hv : Vals ys its') (hz : ys.length ≤ sizeLine) :
    Inv X pins σ (upd H l (.lst ys)) { s with heap := s.heap.update l (Obj.mapSeq f), toks := t' } := by
  have q := PySem.IsL.update e f
  rw [hf] at q
  refine I.write (x := l) (e := l) (by rw [hH]; exact trivial) (.inl rfl) (fun b' u hb hu => (Heap.get?_update_other s.heap (Obj.mapSeq f) (Ne.symm hb)).trans hu) ⟨_, q⟩ ?_
  exact ⟨hz, its', _, hv, q⟩
theorem Inv.lnew {its : List Value} {t' : Nat} (I : Inv X pins σ H s) (hv : Vals ys its) (hz : ys.length ≤ sizeLine) :
    Inv X pins σ (upd H s.heap.objs.size (.lst ys)) { s with heap := s.heap.push { cls := .type "list", data := .seq its.toArray }, toks := t' } :=
  I.laid (fun _ _ q => Heap.get?_push_of_some _ q) (Nat.le_refl _) ⟨hz, its, 0, hv, Heap.get?_push_size _ rfl⟩
theorem Inv.fresh (I : Inv X pins σ H s) : H s.heap.objs.size = none := I.hok.fresh (Nat.le_refl _)
theorem Inv.lstM (I : Inv X pins σ H s) (hH : H l = some (.lst xs)) : xs.length ≤ sizeLine ∧ ∃ (its : List Value) (n : Nat), Vals xs its ∧ xs.length = its.length ∧ s.heap.get? l = some { cls := .type "list", data := .seq its.toArray n } := by
  obtain ⟨z, its, n, r, e⟩ := I.hok l _ hH
  exact ⟨z, its, n, r, r.length, e⟩
theorem notLongL {n : Nat} (h : n ≤ sizeLine) : Builtin.List.listTooLong n = false := by
  unfold Builtin.List.listTooLong
  exact decide_eq_false (by omega)
end
section
variable {X : Cx}
/-! ### methods -/
def rAppend : V → List V → Hp → VK → Prop := fun x vs H Q => ∃ l xs y, x = .ref l ∧ vs = [y] ∧ H l = some (.lst xs) ∧ xs.length < sizeLine ∧ Q .non (upd H l (.lst (xs ++ [y])))
theorem mt_append : MtM X "list.append" rAppend := by
  intro pins s σ H x vs v us Q I rx rv h
  obtain ⟨l, xs, y, rfl, rfl, hH, hz, q⟩ := h
  cases rx
  obtain ⟨u, rfl, ru⟩ := rv.one
  obtain ⟨z, its, n, r, hl, e⟩ := I.lstM hH
  refine call_meets F.slot_list_append ⟨_, e, rfl⟩ F.entry_list_append (F.args_list_append_2 _ _) (PySem.list_append l its.toArray n u (by rw [List.size_toArray]; omega)) ⟨e, ?_⟩
  refine ⟨.non, _, I.lset (its' := its ++ [u]) hH e (by simp) (r.append (.cons ru .nil)) ?_, rfl, q⟩
  rw [List.length_append, List.length_singleton]
  omega
def rReverse : V → List V → Hp → VK → Prop := fun x vs H Q => ∃ l xs, x = .ref l ∧ vs = [] ∧ H l = some (.lst xs) ∧ Q .non (upd H l (.lst xs.reverse))
theorem mt_reverse : MtM X "list.reverse" rReverse := by
  intro pins s σ H x vs v us Q I rx rv h
  obtain ⟨l, xs, rfl, rfl, hH, q⟩ := h
  cases rx
  have hus := rv.zero
  subst hus
  obtain ⟨z, its, n, r, hl, e⟩ := I.lstM hH
  refine call_meets F.slot_list_reverse ⟨_, e, rfl⟩ F.entry_list_reverse (F.args_list_reverse_1 _) (AutoSeq1.list_reverse_list_0 l its.toArray n (by rw [List.size_toArray]; omega)) ⟨e, ?_⟩
  refine ⟨.non, _, I.lset (its' := its.reverse) hH e (by simp) r.reverse ?_, rfl, q⟩
  rw [List.length_reverse]
  omega
def rRep : R2 := fun x y H Q => ∃ l k xs, x = .ref l ∧ y = .int k ∧ H l = some (.lst xs) ∧ -(2 ^ 63) ≤ k ∧ k < 2 ^ 63 ∧ xs.length * k.toNat ≤ sizeLine ∧
  ∀ p, H p = none → Q (.ref p) (upd H p (.lst (List.replicate k.toNat xs).flatten))
theorem len_rep {α : Type} (xs : List α) (k : Nat) : (List.replicate k xs).flatten.length = k * xs.length := by
  induction k with
  | zero => simp
  | succ k ih => rw [List.replicate_succ, List.flatten_cons, List.length_append, ih, Nat.succ_mul, Nat.add_comm]
theorem op_rep : OpR X (binaryOp .Mult) rRep := by
  intro pins s σ H x y v u Q I rx ry h
  obtain ⟨l, k, xs, rfl, rfl, hH, h1, h2, hz, q⟩ := h
  cases rx
  obtain ⟨t, rfl⟩ := ry
  obtain ⟨z, its, n, r, hl, e⟩ := I.lstM hH
  have hlen : its.toArray.size * k.toNat ≤ sizeLine := by rw [List.size_toArray, ← hl]; exact hz
  have hcap : ¬ its.toArray.size * k.toNat > (2 ^ 63 - 1) / 8 := by
    have : (sizeLine : Nat) ≤ (2 ^ 63 - 1) / 8 := by decide
    omega
  have hfit : ¬ (!Builtin.List.listFitsIndex k) = true := by
    rw [fitsIndex_both h1 h2]
    exact Bool.false_ne_true
  have hlong : ¬ Builtin.List.listTooLong (its.toArray.size * k.toNat) = true := by
    rw [notLongL hlen]
    exact Bool.false_ne_true
  have hnew : List.foldl (fun x1 x2 => x1 ++ x2) #[] (List.replicate (if its.toArray.isEmpty = true then 0 else k.toNat) its.toArray) = (List.replicate k.toNat its).flatten.toArray := by
    have f0 : ∀ m : Nat, List.foldl (fun x1 x2 => x1 ++ x2) #[] (List.replicate m its.toArray) = (List.replicate m its).flatten.toArray := fun m => by
      have := foldl_rep its m []
      rw [List.nil_append] at this
      exact this
    rw [f0]
    cases its with
    | nil => simp
    | cons a r' => rw [if_neg (by simp)]
  refine wpAny_binaryOp_repeat_ref (T := "list") (U := "int") (by decide) ⟨_, e, rfl⟩ (fun s' => typeIs_int s' k t) noFill_list_mul F.fills_int_mul F.slot_int_rmul repeat_list F.slot_int_index.lookup
    (call_meets F.slot_int_rmul (typeIs_int s k t) F.entry_int_rmul (F.args_int_rmul_2 _ _) (int___rmul___int_list k t l its.toArray n)
      ⟨e, rfl, ⟨_, e, rfl⟩, call_meets F.slot_list_mul ⟨_, e, rfl⟩ F.entry_list_mul (F.args_list_mul_2 _ _) (AutoListH.list___mul___list_int_3 l its.toArray n k t hfit hcap hlong) ⟨e, ?_⟩⟩)
  rw [hnew]
  exact ⟨.ref _, _, I.lnew (t' := s.toks) (r.rep k.toNat) (by rw [len_rep, Nat.mul_comm]; exact hz), rfl, q _ I.fresh⟩
end
section
variable {prog : Program} {w : World} {A : Around} {E : Value → Shared → Prop} {s : Shared}
end
section
variable {X : Cx}
end
end L2
namespace L2
open PySem PySem.Spec PyProof.Rows
section
variable {κ : Type} [DecidableEq κ]
end
section
variable {P : Program} {w : World} {H : Hp} {h : Heap} {a : Addr}
end
section
variable {X : Cx} {pins : List (Addr × Obj)} {σ : St} {H : Hp} {s : Shared} {a : Addr} {y v : V} {u r : Value} {o : Option V} {A : Around} {E : Value → Shared → Prop}
end
section
variable {X : Cx} {pins : List (Addr × Obj)} {σ : St} {H : Hp} {s : Shared} {a : Addr} {kvs : List (Key × V)} {k : Key} {u : Value} {A : Around} {E : Value → Shared → Prop}
end
section
variable {X : Cx} {o i e value : Expr} {pos pos' tpos : Pos} {td ty tv : TE}
end
section
variable {X : Cx} {pos : Pos}
end
section
variable {X : Cx} {pins : List (Addr × Obj)} {σ : St} {H : Hp} {s : Shared} {a : Addr} {y d : V} {u r : Value} {o : Option V} {A : Around} {E : Value → Shared → Prop}
end
section
variable {X : Cx} {o e f : Expr} {apos cpos : Pos} {td ty tx : TE}
end
section
variable {X : Cx} {pins : List (Addr × Obj)} {σ : St} {H : Hp} {s : Shared} {a : Addr} {kvs : List (Key × V)} {A : Around} {E : Value → Shared → Prop}
end
section
variable {X : Cx} {pins : List (Addr × Obj)} {σ : St} {H : Hp} {s : Shared} {a : Addr} {y : V} {u : Value} {A : Around} {E : Value → Shared → Prop}
end
end L2
namespace Att
open PySem PySem.W PySem.Calls PyProof.Rows
/-! ### the script -/
theorem ints_of_wellAll {P : Params} {h : Heap} : ∀ (ns : List Int) (vs : List Value), WellAll P h vs (ns.map WData.int) → IntsAre vs ns := by
  intro ns
  induction ns with
  | nil =>
    intro vs w
    rw [List.map_nil] at w
    cases w
    exact .nil
  | cons n ns ih =>
    intro vs w
    rw [List.map_cons] at w
    cases w with
    | cons a b =>
      cases a
      exact .cons _ _ (ih _ b)
theorem script_of {l : OpenLaw} {n : Nat} (hn : l.most = some n) {P : Params} {h : Heap} {args : List WData} {vals : List Value}
    (hpre : l.row.toRowW.claim.pre args = true) (hwl : WellAll P h vals args) :
    ∃ a vs ns, vals = [Value.ref a] ∧ args = [WData.list (ns.map WData.int)] ∧ h.get? a = some { cls := .type "list", data := .seq vs.toArray } ∧ IntsAre vs ns ∧ ns.length ≤ n := by
  have hsh : WShape.hasAll [] args [.list .int] = true := (pre_splitW hpre).1
  have hc : l.pre.holds [] { args := args } = true := (pre_splitW hpre).2
  obtain ⟨d, r, rfl, h1, h2⟩ := hasAllW_cons hsh
  obtain rfl := hasAllW_nil h2
  obtain ⟨xs, rfl, h3⟩ := hasW_list h1
  obtain ⟨ns, rfl⟩ := items_int h3
  have hlen : ns.length ≤ n := by
    unfold OpenLaw.pre at hc
    have h4 : (WTm.not (.lt (.lit (.int (n : Int))) (.len (.arg 0)))).holds [] { args := [.list (ns.map .int)] } = true := by
      have h4 := (holds_andW hc).1
      rw [hn] at h4
      exact h4
    have h5 := condW_of h4 (w_not (w_lt w_lit (w_len_list (w_arg rfl))))
    rw [List.length_map] at h5
    refine Nat.le_of_not_lt fun q => ?_
    have q' : (n : Int) < ((ns.length : Nat) : Int) := by omega
    first
      | (rw [decide_eq_true q'] at h5; exact absurd h5 (by decide))
      | (simp at h5; omega)
  cases hwl with
  | cons w1 w2 =>
    cases w2
    cases w1 with
    | list ho hall => exact ⟨_, _, ns, rfl, rfl, ho, ints_of_wellAll ns _ hall, hlen⟩
theorem post_true (l : OpenLaw) (args : List WData) : l.row.toRowW.claim.post args (.bool true) args = true :=
  postW_of (r := l.row.toRowW) (X := (true == true))
    (show WShape.has [] (.bool true) .bool = true by first | rfl | decide | simp [WShape.has, WShape.arms, WShape.armsAll])
    (show (WTm.eq .res (.lit (.bool true))).value [] { args := args, res := some (.bool true), after := args } = some (.bool (true == true)) from w_eq_bool (w_res rfl) w_lit) rfl
theorem attach_call {l : OpenLaw} {n : Nat} {q : Program} {loose : List Str} {XP : (Str → Option Value) → Heap → Prop} {YP : World → Heap → Prop} {d : DefRec}
    (hn : l.most = some n) (hdf : d.params.defaults = [])
    (call : ∀ (w : World) (s₀ s₁ : Shared) (mg mb : Str → Option Value) (fa : Addr) (o : Obj) (pm cd doc : Value) (a : Addr) (vs : List Value) (ns : List Int),
      Ground q loose [] XP w s₀ mg mb s₁.heap → YP w s₁.heap →
      s₁.heap.get? fa = some o → o.data = .func (docDef d.name d.params d.body d.scope pm cd doc) → s₁.heap.CodeRec cd d.name → mg d.name = some (.ref fa) →
      s₁.heap.get? a = some { cls := .type "list", data := .seq vs.toArray } → IntsAre vs ns → ns.length ≤ n → s₁.gens = #[] →
      codeAny (model l.prog w) callerA (.call (.ref fa) ⟨[.ref a], []⟩) (fun r s' => r = .ok (.ret (.bool true)) ∧ OldK s₁.heap s'.heap ∧ s'.os = s₁.os ∧ AllBare s'.gens) s₁) :
    WalkO q loose XP YP l.row.toRowW d [] (fun f vs => PySem.call f vs) := by
  intro w s₀ s₁ mg mb G Y fa o pm cd doc dV kV ho hd hcd hD hmg hg args vals as hpre hlay hrd hwl hlo
  obtain rfl : dV = .none := Dflts.none hD hdf
  obtain rfl : kV = .none := Dflts.noKw hD
  obtain ⟨a, vs, ns, rfl, rfl, hobj, hints, hlen⟩ := script_of hn hpre hwl
  refine enter_call (codeAny_mono (call w s₀ s₁ mg mb fa o pm cd doc a vs ns G Y ho (fd_plain hd) hcd hmg hobj hints hlen hg) fun r s' hq => ?_)
  obtain ⟨rfl, h2, h3, h4⟩ := hq
  exact ⟨.inl ⟨.bool true, .bool true, [], rfl, fun _ => rfl, .bool true, post_true l _, fun _ => ⟨List.Pairwise.nil, fun _ hm => (nomatch hm)⟩⟩, h2, h3, h4⟩
section
variable {prog : Program} {w : World} {A : Around} {E : Value → Shared → Prop} {s : Shared} {K : Frag}
end
end Att
namespace L2
open PySem PySem.Spec PyProof.Rows
theorem vals_ints : ∀ {vs : List Value} {ns : List Int}, IntsAre vs ns → Vals (ns.map V.int) vs
  | _, _, .nil => .nil
  | _, _, .cons n t h => .cons ⟨t, rfl⟩ (vals_ints h)
end L2
namespace L2
open PySem PySem.Spec PyProof.Rows
end L2
namespace L2
open PySem PySem.Spec PyProof.Rows
/-! ### the text by places -/
def inClass (s : Stmt) (j : Nat) : Stmt := match s with
  | .ClassDef _ _ _ body _ _ _ _ _ _ _ => body.getD j (.Pass ⟨0, 0, 0, 0⟩)
  | _ => .Pass ⟨0, 0, 0, 0⟩
def defArgs (s : Stmt) : Arguments := match s with
  | .FunctionDef _ a _ _ _ _ _ _ _ _ => a
  | _ => { posonlyargs := [], args := [], vararg := none, kwonlyargs := [], kw_defaults := [], kwarg := none, defaults := [] }
def defBody (s : Stmt) : List Stmt := match s with
  | .FunctionDef _ _ b _ _ _ _ _ _ _ => b
  | _ => []
def defScope (s : Stmt) : Scope := match s with
  | .FunctionDef _ _ _ _ _ _ sc _ _ _ => sc
  | _ => { kind := .function, names := [], isGenerator := false, isCoroutine := false }
/-! ### no exception leaves a def -/
abbrev CX0 : CXT := fun _ _ _ _ _ _ => False
abbrev E0 : XK := fun _ _ _ => False
theorem pass0 {X : Cx} : Passes CX0 X E0 := fun _ _ _ _ _ _ _ h => h.elim
/-! ### a def (or method) of the text as it stands behind the top -/
structure Fun (K : PySem.W.Frag) (x qual : Str) (st : Stmt) (f : Addr) (fd : FuncData) : Prop where
  ex : ∃ (oc : Value) (od : Option Addr) (kV doc pm : Value) (an : Option Addr) (cdv ct : Value) (osl : Array (Option Value)),
    fd = PySem.W.fnOf x qual (defArgs st) (defBody st) (defScope st) .none kV doc pm an cdv ct ∧ K.lookup f = some ⟨oc, od, .func fd, osl⟩ ∧ PySem.W.codeIn K cdv qual = true
  kp : PySem.W.keepIn K (.ref f) = true
section
variable {P : Program} {w : World} {K : PySem.W.Frag} {mg : Str → Option Value} {base : Heap}
theorem Fun.ok {x qual : Str} {st : Stmt} {f : Addr} {fd : FuncData} {N ps : List Str} {k : Nat} {sp : Sp} (F : Fun K x qual st f fd) (S : FnScope N ps (defScope st)) (len : ∀ vs H Q E, sp vs H Q E → vs.length = ps.length)
    (hbody : ∀ (cdv : Value) (A : Around) (outer : List Env) (s : Shared) (H : Hp) (vs : List V) (Q : VK) (E : XK), Room k (A.deeper (envOfC qual (defScope st) s.heap.objs.size f cdv)) → sp vs H Q E →
      ∃ t, PSs (cxOf CX0 P w K mg base N qual (defScope st) f cdv A outer s H E).nox (defBody st) t ∧ t { nx := fun _ H' => Q .non H', rt := Q } (start N vs) H) : FnOk P w K mg base CX0 (k + 1) f fd ps sp := by
  obtain ⟨oc, od, kV, doc, pm, an, cdv, ct, osl, rfl, lk, hcd⟩ := F.ex
  refine fn_of lk hcd S len fun A outer s H vs Q E hr hsp => ?_
  obtain ⟨t, h, q⟩ := hbody cdv A outer s H vs Q E hr hsp
  exact ⟨t, h.nox, q⟩
theorem Fun.binds {x qual : Str} {st : Stmt} {f : Addr} {fd : FuncData} {ps : List Str} (F : Fun K x qual st f fd)
    (h : ∀ (kV doc pm : Value) (an : Option Addr) (cdv ct : Value) (us : List Value), us.length = ps.length → bindArgs (PySem.W.fnOf x qual (defArgs st) (defBody st) (defScope st) .none kV doc pm an cdv ct) ⟨us, []⟩ = pure (ps.zip us)) : Binds K fd ps [] := by
  obtain ⟨oc, od, kV, doc, pm, an, cdv, ct, osl, rfl, lk, hcd⟩ := F.ex
  exact .all (h kV doc pm an cdv ct)
theorem fun_mk {x qual : Str} {st : Stmt} {f : Addr} {oc : Value} {od an : Option Addr} {osl : Array (Option Value)} {kV doc pm cdv ct : Value} (l : K.lookup f = some ⟨oc, od, .func (PySem.W.fnOf x qual (defArgs st) (defBody st) (defScope st) .none kV doc pm an cdv ct), osl⟩)
    (c : PySem.W.codeIn K cdv qual = true) (k : PySem.W.keepIn K (.ref f) = true) : Fun K x qual st f (PySem.W.fnOf x qual (defArgs st) (defBody st) (defScope st) .none kV doc pm an cdv ct) := ⟨⟨oc, od, kV, doc, pm, an, cdv, ct, osl, rfl, l, c⟩, k⟩
end
section
variable {X : Cx}
theorem pv (i : Nat) {x : Str} {pos : Pos} (hN : X.N[i]? = some x := by rfl) (hv : Vis X.env.scope x := by first | exact Or.inl rfl | exact Or.inr (Or.inl rfl) | exact Or.inr (Or.inr rfl)) (hd : (x == ("__debug__" : Str)) = false := by decide)
    (hcd : (x == ("__classdict__" : Str)) = false := by decide) : PE X (.Name x pos) (tVar i) := pe_var hN hv hd hcd
end
/-! ### tests -/
theorem iteF {A B : Prop} (h : B) : if false = true then A else B := by
  rw [if_neg Bool.false_ne_true]
  exact h
theorem iteT {A B : Prop} (h : A) : if true = true then A else B := by
  rw [if_pos rfl]
  exact h
/-! ### heaps -/
def Same (H H' : Hp) : Prop := ∀ b o, H b = some o → H' b = some o
theorem Same.refl (H : Hp) : Same H H := fun _ _ h => h
theorem Same.trans {H H1 H2 : Hp} (a : Same H H1) (b : Same H1 H2) : Same H H2 := fun c o h => b c o (a c o h)
theorem Same.free {H H' : Hp} (e : Same H H') {l : Addr} (h : H' l = Option.none) : H l = Option.none := by
  cases q : H l with
  | none => rfl
  | some o =>
    rw [e l o q] at h
    cases h
theorem Same.seq {K : PySem.W.Frag} {H H' : Hp} {a : Addr} {xs : List V} (e : Same H H') (h : SqL K H a xs) : SqL K H' a xs := by
  rcases h with (h | ⟨o, h⟩) | h
  · exact .inl (.inl (e _ _ h))
  · exact .inl (.inr ⟨o, e _ _ h⟩)
  · exact .inr h
section
variable {κ : Type} [DecidableEq κ]
end
end L2

namespace GP
theorem len1 {α : Type} : ∀ {l : List α}, l.length = 1 → ∃ a, l = [a]
  | [a], _ => ⟨a, rfl⟩
theorem len_s {α : Type} {n : Nat} : ∀ {l : List α}, l.length = n + 1 → ∃ a r, l = a :: r ∧ r.length = n
  | a :: r, h => ⟨a, r, rfl, Nat.succ.inj h⟩
theorem len2 {α : Type} {l : List α} (h : l.length = 2) : ∃ a b, l = [a, b] := by
  obtain ⟨a, r, rfl, k⟩ := len_s h
  obtain ⟨b, rfl⟩ := len1 k
  exact ⟨a, b, rfl⟩
theorem len3 {α : Type} {l : List α} (h : l.length = 3) : ∃ a b c, l = [a, b, c] := by
  obtain ⟨a, r, rfl, k⟩ := len_s h
  obtain ⟨b, c, rfl⟩ := len2 k
  exact ⟨a, b, c, rfl⟩
theorem len4 {α : Type} {l : List α} (h : l.length = 4) : ∃ a b c d, l = [a, b, c, d] := by
  obtain ⟨a, r, rfl, k⟩ := len_s h
  obtain ⟨b, c, d, rfl⟩ := len3 k
  exact ⟨a, b, c, d, rfl⟩
theorem len5 {α : Type} {l : List α} (h : l.length = 5) : ∃ a b c d e, l = [a, b, c, d, e] := by
  obtain ⟨a, r, rfl, k⟩ := len_s h
  obtain ⟨b, c, d, e, rfl⟩ := len4 k
  exact ⟨a, b, c, d, e, rfl⟩
theorem len6 {α : Type} {l : List α} (h : l.length = 6) : ∃ a b c d e f, l = [a, b, c, d, e, f] := by
  obtain ⟨a, r, rfl, k⟩ := len_s h
  obtain ⟨b, c, d, e, f, rfl⟩ := len5 k
  exact ⟨a, b, c, d, e, f, rfl⟩
end GP


namespace L2
open PySem PySem.Spec PyProof.Rows
section
variable {X : Cx}
/-! ### isinstance, all -/
theorem call_isinst : CallR X (.builtin "isinstance") (fun xs H Q => ∃ x n t b, xs = [x, .ty n] ∧ TyOf X.K H x t ∧ PySem.W.kitOne X.K t (.type n) = some b ∧ Q (.bl b) H) := by
  intro pins s σ H xs us Q I r h
  obtain ⟨x, n, t, b, rfl, ty, e, q⟩ := h
  obtain ⟨u, w', rfl, rx, rn⟩ := vals2 r
  cases rn
  exact isinst_ok I rx ty e fun tk => ⟨.bl b, H, I.tok _, rfl, q⟩
theorem bools_get : ∀ {bs : List Bool} {us : List Value}, Vals (bs.map V.bl) us → ∀ (i : Nat) (v : Value), us[i]? = some v → ∃ b, bs[i]? = some b ∧ v = .bool b
  | [], _, r, i, v, e => by
    cases r
    simp at e
  | b :: bs, _, r, i, v, e => by
    cases r with
    | cons r1 r2 =>
      cases i with
      | zero =>
        simp at e
        subst e
        exact ⟨b, rfl, r1⟩
      | succ i =>
        obtain ⟨c, h1, h2⟩ := bools_get r2 i v (by simpa using e)
        exact ⟨c, by simpa using h1, h2⟩
theorem range_allB (bs : List Bool) : ((List.range bs.length).all fun i => (bs[i]?).getD true) = bs.all id := by
  rw [Bool.eq_iff_iff, List.all_eq_true, List.all_eq_true]
  constructor
  · intro h b hb
    obtain ⟨i, hi, rfl⟩ := List.getElem_of_mem hb
    have := h i (List.mem_range.mpr hi)
    simpa only [List.getElem?_eq_getElem hi, Option.getD_some, id] using this
  · intro h i hi
    have hi' := List.mem_range.mp hi
    simpa only [List.getElem?_eq_getElem hi', Option.getD_some, id] using h _ (List.getElem_mem hi')
theorem call_all_bl (hc : X.calm = true) : CallR X (.builtin "all") (fun xs H Q => ∃ (l : Addr) (bs : List Bool), xs = [.ref l] ∧ SqL X.K H l (bs.map V.bl) ∧ Q (.bl (bs.all id)) H) := by
  intro pins s σ H xs us Q I r h
  obtain ⟨l, bs, rfl, hl, q⟩ := h
  obtain ⟨u, rfl, ru⟩ := vals1 r
  cases ru
  obtain ⟨its, rv, p, hz⟩ := I.list hl
  have pl : s.heap.IsList l its.toArray := p.isList
  have hlt : l < s.heap.objs.size := by obtain ⟨_, e, _⟩ := pl; exact Heap.lt_size e
  have hlen : bs.length = its.length := by rw [← rv.length, List.length_map]
  refine call_all_walk (wpAny_pyIter_list pl ?_)
  refine ⟨s.heap.objs.size, [s.heap.objs.size, l], [s.heap.objs.size], its.toArray.size, _, _, fun i => (bs[i]?).getD true, rfl, Walks.list (A := X.A.in1) (I.ok.hd hc) _ l (Nat.ne_of_lt hlt) its.toArray,
    ⟨⟨_, Heap.get?_push_size _ rfl, rfl, rfl⟩, pl.push _⟩, fun i v s' Q' E' hP hQ => ?_, fun h' tk hk => ?_⟩
  · obtain ⟨b, e, rfl⟩ := bools_get rv i v (by simpa using hP)
    simp only [e, Option.getD_some] at hQ
    exact wpAny_truthy_bool hQ
  · have e : ((List.range its.toArray.size).all fun i => (bs[i]?).getD true) = bs.all id := by
      rw [List.size_toArray, ← hlen]; exact range_allB bs
    rw [e]
    refine ⟨.bl (bs.all id), H, I.kept (t' := tk) (fun b x e => hk b x (fun hm => ?_) (Heap.get?_push_of_some _ e)), rfl, q⟩
    rw [List.mem_singleton.mp hm] at e
    exact Nat.lt_irrefl _ (Heap.lt_size e)
end
theorem pg_tupK {X : Cx} {K' : PySem.W.Frag} {es : List Expr} {k : Nat} {t : TGs} {n : Nat} {pos : Pos} (hK : X.K = K') (hc : X.calm = true) (h : PGs X es t)
    (hn : (assignEach es X.env).length = n := by rfl) (hst : (assignEach es X.env).findIdx? (·.1) = none := by rfl) : PG X (.Tuple es k pos) (gTup K' n t) := by
  subst hK
  exact pg_tup hc h hn hst
/-! ### a word between two statements -/
def tMid (t u : TS) : TS := fun D σ H => ∃ Mid : St → Hp → Prop, t { D with nx := Mid } σ H ∧ ∀ σ' H', Mid σ' H' → u D σ' H'
theorem pss_mid {X : Cx} {st : Stmt} {rest : List Stmt} {t u : TS} (h1 : PS X st t) (h2 : PSs X rest u) : PSs X (st :: rest) (tMid t u) := by
  intro pins s σ H D I h
  obtain ⟨Mid, h, hm⟩ := h
  refine wpAny_execs_cons (thn (h1 pins s σ H { D with nx := Mid } I h) fun f s1 q => ?_)
  cases f with
  | next =>
    obtain ⟨σ', H', I', q⟩ := q
    exact h2 pins s1 σ' H' D I' (hm σ' H' q)
  | ret v => exact q
  | brk => exact q
  | cont => exact q
/-! ### a list comprehension of one clause without tests -/
def cxComp (X : Cx) (scope : Scope) (cl : List (Str × Addr)) (C : Addr) (N : List Str) (s : Shared) (H : Hp) (ex : List Addr) (pn : List (Addr × Obj)) (E : Value → Shared → Prop) : Cx :=
  { X with N := N, s₀ := s, H₀ := H, env := compEnvC scope cl C X.env, outer := X.stack, ex := ex, fn := fun _ => false, pn := pn, xe := E }
structure CompSc (X : Cx) (scope : Scope) (cl : List (Str × Addr)) (N : List Str) (σ0 : St → St) : Prop where
  clos : closureFor scope X.env = pure cl
  kind : scope.kind = .function
  cell : ∀ y ∈ scope.names, y.2 ≠ .cell
  names : ∀ y ∈ scope.names, y.2 = .local → scope.names.lookup y.1 = some .local
  sub : ∀ x c, cl.lookup x = some c → X.env.cells.lookup x = some c
  has : ∀ x, ((relabel scope X.env).names.lookup x = some .cell ∨ (relabel scope X.env).names.lookup x = some .free) → ∃ c, cl.lookup x = some c
  len : ∀ σ, (σ0 σ).length = N.length
  fv : ∀ (σ : St) (i : Nat) (x : Str) (v : V), N[i]? = some x → (σ0 σ)[i]? = some (some v) → Vis (relabel scope X.env) x →
    ∃ (j : Nat) (c : Addr), X.N[j]? = some x ∧ σ[j]? = some (some v) ∧ X.env.kindOf x = some .cell ∧ ((relabel scope X.env).names.lookup x = some .cell ∨ (relabel scope X.env).names.lookup x = some .free) ∧ cl.lookup x = some c
theorem CompSc.plain {X : Cx} {scope : Scope} {N : List Str} (hfree : ∀ x ∈ scope.names, x.2 ≠ .free) (kind : scope.kind = .function) (cell : ∀ y ∈ scope.names, y.2 ≠ .cell)
    (names : ∀ y ∈ scope.names, y.2 = .local → scope.names.lookup y.1 = some .local) : CompSc X scope [] N (fun _ => List.replicate N.length none) := by
  have hr : (relabel scope X.env).names = scope.names := by
    unfold relabel
    exact map_eq_self fun x hx => by
      obtain ⟨n, k⟩ := x
      have : (k == NameKind.free) = false := by simpa using hfree _ hx
      simp [this]
  refine ⟨closureFor_none hfree, kind, cell, names, fun x c e => by simp at e, fun x hx => ?_, fun σ => List.length_replicate, fun σ i x v _ e _ => ?_⟩
  · rw [hr] at hx
    rcases hx with hx | hx
    · exact absurd rfl (cell _ (PySem.mem_of_lookup hx))
    · exact absurd rfl (hfree _ (PySem.mem_of_lookup hx))
  · rw [List.getElem?_replicate] at e
    split at e
    · cases e
    · cases e
def Kp (a b : St) : Prop := ∀ (i : Nat) (v : V), a[i]? = some (some v) → b[i]? = some (some v)
theorem Kp.rep (n : Nat) (b : St) : Kp (List.replicate n none) b := fun i v e => by
  rw [List.getElem?_replicate] at e
  split at e
  · cases e
  · cases e
def tComp (wi : TI) (g : TG) (te : TE) (σ0 : St → St) : TE := fun σ H Q => wi σ H fun J H1 => ∀ l, H1 l = none → ∃ W : Nat → Nat → List V → Hp → Prop, (∃ m, W 0 m [] (upd H1 l (.lst []))) ∧
  ∀ i m ys H2, W i m ys H2 → (J.stop i H2 ∧ Q (.ref l) H2) ∨
    (J.go i H2 ∧ ∀ x H3, J.yld i H2 x H3 → g x (σ0 σ) H3 fun σ4 H4 => Kp (σ0 σ) σ4 ∧ te σ4 H4 fun y H5 => H5 l = some (.lst ys) ∧ ys.length < sizeLine ∧ ∃ m', m' < m ∧ W (i + 1) m' (ys ++ [y]) (upd H5 l (.lst (ys ++ [y]))))
theorem Inv.unpin {X : Cx} {pins : List (Addr × Obj)} {σ : St} {H : Hp} {s : Shared} (I : Inv X pins σ H s) : Inv X [] σ H s := I.pins_of fun _ hp => nomatch hp
theorem HOk.but {P : Program} {w : World} {H : Hp} {h h' : Heap} {C : Addr} (x : HOk P w H h) (hC : H C = none) (sb : Heap.SameBut C h h') : HOk P w H h' := fun b u e =>
  (x b u e).stay (fun c v hc q => (sb.2 c (by
    rintro rfl
    rcases hc with z | z
    · rw [z, e] at hC; cases hC
    · rw [hC] at z; cases z)).trans q) (fun _ q => q) fun _ _ q => q
section
variable {X : Cx} {pins : List (Addr × Obj)} {σ : St} {H : Hp} {s : Shared} {scope : Scope} {cl : List (Str × Addr)} {N : List Str} {σ0 : St → St} {fp : List Addr} {h₁ : Heap} {m : Str → Option Value} {E : Value → Shared → Prop}
theorem inv_comp (S : CompSc X scope cl N σ0) (I : Inv X pins σ H s) (hf : ∀ b ∈ fp, FpOk X pins H b ∧ b < s.heap.objs.size) (kp : ∀ b o, s.heap.get? b = some o → h₁.get? b = some o) (hns : h₁.Ns s.heap.objs.size m) (t' : Nat) :
    Inv (cxComp X scope cl s.heap.objs.size N s H fp (X.pn ++ pins) E) [] (σ0 σ) H { s with heap := h₁, toks := t' } := by
  have nstk : ∀ b, b ≠ X.env.locals → b ∉ X.fs → b ∉ frs X.stack := fun b h1 h2 z => by
    rcases List.mem_cons.mp (I.stkSub b z) with q | q
    · exact h1 q
    · exact h2 q
  have cab : ∀ x c, cl.lookup x = some c → c < s.heap.objs.size := fun x c e => by
    obtain ⟨v, o, ho, _⟩ := I.cell x c (S.sub x c e)
    exact Heap.lt_size ho
  refine ⟨⟨I.mod, S.kind, I.ok.glob, I.ok.blt, Nat.le_refl _, fun x y c a b => I.ok.inj x y c (S.sub x c a) (S.sub y c b), S.has, (fun x c z => by cases z), I.ok.hd, I.ok.frames, .inl rfl, fun b hb => ?_, I.bs, Nat.le_trans I.ok.bsz I.sz, fun b o e hb => ?_, fun b hb => ?_, I.stack, I.stkFree⟩,
    rfl, I.bare, Un.kept kp, ⟨m, hns, fun i x v e1 e2 e3 => ?_⟩, fun x c e => ?_, I.hok.fresh (Nat.le_refl _), fun x c e => I.freeC x c (S.sub x c e), fun p hp => ?_, I.hok.kept kp, S.len σ⟩
  · obtain ⟨⟨_, _, _, _, f4, _⟩, lt⟩ := hf b hb
    exact ⟨Nat.ne_of_lt lt, fun x c e => f4 x c (S.sub x c e)⟩
  · obtain ⟨⟨f0, _, _, f3, _⟩, _⟩ := hf b hb
    rcases f3 with z | z
    · exact I.ok.noex b o e z
    · exact absurd (Nat.lt_of_lt_of_le (Heap.lt_size e) (Nat.le_trans I.ok.bsz z)) (Nat.lt_irrefl _)
  · obtain ⟨⟨_, f1, f2, _⟩, _⟩ := hf b hb
    exact nstk b f1 f2
  · obtain ⟨j, c, n1, n2, n3, n4, n5⟩ := S.fv σ i x v e1 e2 e3
    obtain ⟨mX, _, hl⟩ := I.loc
    obtain ⟨u, r, l⟩ := hl j x v n1 n2 (.inr (.inl n3))
    refine ⟨u, r, .inr ⟨n4, c, n5, ?_⟩⟩
    rcases l with ⟨k, _⟩ | ⟨_, c', ec, o, ho, hd⟩
    · have k' : X.env.scope.names.lookup x = some .local := k
      have n3' : X.env.scope.names.lookup x = some .cell := n3
      rw [k'] at n3'; cases n3'
    · have q := S.sub x c n5
      rw [q] at ec; cases ec
      exact ⟨o, kp _ _ ho, hd⟩
  · obtain ⟨v, o, ho, hd⟩ := I.cell x c (S.sub x c e)
    exact ⟨v, o, kp _ _ ho, hd⟩
  · have hp' : p ∈ X.pn ++ pins := by
      rcases List.mem_append.mp hp with z | z
      · exact z
      · cases z
    obtain ⟨a, b, c, d, e⟩ := I.pin p hp'
    exact ⟨kp _ _ a, b, Nat.ne_of_lt (Heap.lt_size a), nstk _ c d, e⟩
end
set_option maxHeartbeats 2000000 in
theorem pe_comp {X : Cx} {elt tg iter : Expr} {scope : Scope} {pos : Pos} {wi : TI} {g : TG} {te : TE} {N : List Str} {σ0 : St → St} (hc : X.calm = true) (hS : X.Ok → ∃ cl, CompSc X scope cl N σ0) (hi : PI X tg iter wi)
    (hg : ∀ cl C s H ex pn E, PG (cxComp X scope cl C N s H ex pn E) tg g) (he : ∀ cl C s H ex pn E, PE (cxComp X scope cl C N s H ex pn E) elt te)
    (hs : ∀ x, foldedSetIterable iter X.env x = pure x := by intro _; rfl) : PE X (.ListComp elt [⟨tg, iter, [], 0⟩] scope pos) (tComp wi g te σ0) := by
  intro pins s σ H Q I h
  obtain ⟨cl, S⟩ := hS I.ok
  rw [eval_ListComp]
  refine wpAny_comprehension_free (use := none) rfl hs S.clos S.kind S.names (thn (hi pins s σ H _ I h) fun v s1 h1 => thn h1 fun itv s2 h2 => ?_)
  obtain ⟨it, fp, tn, J, H2, e, I2, T, st2, f2, hq⟩ := h2
  subst e
  obtain ⟨W, ⟨m0, w0⟩, turn⟩ := hq _ I2.fresh
  refine wpAny_newObj_type (wpAny_newFunctionEnv S.cell (by intro y hy; simp at hy) (fun h₁ hns₁ hsb₁ => ?_) S.kind)
  have I3 : Inv X pins σ (upd H2 s2.heap.objs.size (.lst [])) { s2 with heap := s2.heap.push { cls := .type "list", data := .seq ([] : List Value).toArray } } := I2.lnew (t' := s2.toks) .nil (Nat.zero_le _)
  have old23 : ∀ b o, s2.heap.get? b = some o → (s2.heap.push { cls := .type "list", data := .seq ([] : List Value).toArray }).get? b = some o := fun b o e => Heap.get?_push_of_some _ e
  have kp : ∀ b o, (s2.heap.push { cls := .type "list", data := .seq ([] : List Value).toArray }).get? b = some o → h₁.get? b = some o := fun b o e => hsb₁.extBut b o (Nat.ne_of_lt (Heap.lt_size e)) (Heap.get?_push_of_some _ e)
  have f3 : ∀ b ∈ fp, FpOk X pins (upd H2 s2.heap.objs.size (.lst [])) b ∧ b < (s2.heap.push { cls := .type "list", data := .seq ([] : List Value).toArray }).objs.size := fun b hb => by
    obtain ⟨o, ho, _⟩ := T.obj _ _ st2 b hb
    have hlt := Heap.lt_size ho
    obtain ⟨f0, f1⟩ := f2 b hb
    exact ⟨⟨by rw [upd_ne (Nat.ne_of_lt hlt)]; exact f0, f1⟩, Heap.lt_size (old23 b o ho)⟩
  have st3 : tn 0 h₁ := T.keep _ _ _ st2 fun b _ o e => kp b o (old23 b o e)
  generalize hR : (fun r s' => compPost (model X.prog X.w) X.A X.xe none (EP X pins σ Q) (.ref s2.heap.objs.size) (s2.heap.push { cls := .type "list", data := .seq ([] : List Value).toArray }).objs.size r s') = R
  generalize hX' : cxComp X scope cl (s2.heap.push { cls := .type "list", data := .seq ([] : List Value).toArray }).objs.size N { s2 with heap := s2.heap.push { cls := .type "list", data := .seq ([] : List Value).toArray } }
    (upd H2 s2.heap.objs.size (.lst [])) fp (X.pn ++ pins) (notedBy (model X.prog X.w) X.A (compEnvC scope cl (s2.heap.push { cls := .type "list", data := .seq ([] : List Value).toArray }).objs.size X.env) fun e s' => R (.error e) s') = X'
  have I4 : Inv X' [] (σ0 σ) (upd H2 s2.heap.objs.size (.lst [])) { s2 with heap := h₁, toks := s2.toks + ([] : List (Str × Value)).length } := by
    subst hX'
    exact inv_comp (s := { s2 with heap := s2.heap.push { cls := .type "list", data := .seq ([] : List Value).toArray } }) S I3 f3 kp hns₁ _
  have PG' : PG X' tg g := by subst hX'; exact hg _ _ _ _ _ _ _
  have PE' : PE X' elt te := by subst hX'; exact he _ _ _ _ _ _ _
  have stat : ∀ {H' : Hp}, (∀ b ∈ fp, H' b = none) → ∀ b ∈ fp, FpOk X' [] H' b := fun hn b hb => by
    subst hX'
    obtain ⟨⟨_, f1, fn, _, f4, f5⟩, lt⟩ := f3 b hb
    refine ⟨hn b hb, Nat.ne_of_lt lt, fun z => ?_, .inl hb, fun x c e => f4 x c (S.sub x c e), fun p hp => f5 p ?_⟩
    · rcases List.mem_cons.mp (I3.stkSub b z) with q | q
      · exact f1 q
      · exact fn q
    · rcases List.mem_append.mp hp with z | z
      · exact z
      · cases z
  have hp1 : X'.prog = X.prog := by subst hX'; rfl
  have hp2 : X'.w = X.w := by subst hX'; rfl
  have hp3 : X'.K = X.K := by subst hX'; rfl
  have hp4 : X'.calm = true := by subst hX'; exact hc
  have hp5 : X'.A = X.A := by subst hX'; rfl
  have hp6 : X'.env = compEnvC scope cl (s2.heap.push { cls := .type "list", data := .seq ([] : List Value).toArray }).objs.size X.env := by subst hX'; rfl
  have hp7 : X'.xe = notedBy (model X.prog X.w) X.A X'.env fun e s' => R (.error e) s' := by subst hX'; rfl
  -- the end
  have fin : ∀ {H' : Hp} {s' : Shared}, Inv X' [] (σ0 σ) H' s' → Q (.ref s2.heap.objs.size) H' → R (.ok .next) s' := by
    intro H' s' I5 q
    subst hR
    obtain ⟨mC, hnC, _⟩ := I5.loc
    rw [hp6] at hnC
    refine ⟨mC, hnC, fun h' sb => ⟨.ref s2.heap.objs.size, H', ?_, rfl, q⟩⟩
    have hok : HOk X.prog X.w H' h' := by
      have z := I5.hok
      rw [hp1, hp2] at z
      have zf := I5.free
      rw [hp6] at zf
      exact z.but zf sb
    refine I3.call' (ch := fp) (s' := { s' with heap := h' }) (by have z := I5.os; subst hX'; exact z) ?_ hok I5.bare fun b hb => ?_
    · have u : Un (frs X.stack) fp (upd H2 s2.heap.objs.size (.lst [])) H' (s2.heap.push { cls := .type "list", data := .seq ([] : List Value).toArray }) s'.heap := by
        have z := I5.base
        subst hX'
        exact z
      have same : ∀ b o, (s2.heap.push { cls := .type "list", data := .seq ([] : List Value).toArray }).get? b = some o → h'.get? b = s'.heap.get? b := fun b o e => sb.2 b (Nat.ne_of_lt (Heap.lt_size e))
      refine ⟨fun b o e n h1 h2 => (same b o e).trans (u.keep b o e n h1 h2), fun b o e n h1 h2 => ?_, u.free, fun b o e h2 => ?_, u.tups, u.frzs, u.tbls⟩
      · obtain ⟨sl, z⟩ := u.slot b o e n h1 h2
        exact ⟨sl, (same b o e).trans z⟩
      · obtain ⟨o', z⟩ := u.there b o e h2
        exact ⟨o', (same b o e).trans z⟩
    · obtain ⟨⟨_, f1, _, f3', f4, f5⟩, _⟩ := f3 b hb
      exact ⟨f3', f1, f4, f5⟩
  -- the loop
  have loop : ∀ s3 : Shared, Inv X' [] (σ0 σ) (upd H2 s2.heap.objs.size (.lst [])) s3 → tn 0 s3.heap →
      codeAny (model X.prog X.w) X.A (.compLoop (.ListComp elt [⟨tg, iter, [], 0⟩] scope pos) 0 (.ref it) (.ref s2.heap.objs.size) X'.env) R s3 := by
    intro s3 J3 t3
    refine codeAny_loop rfl (fun n s' => ∃ i ys H', Inv X' [] (σ0 σ) H' s' ∧ tn i s'.heap ∧ (∀ b ∈ fp, H' b = none) ∧ W i n ys H') ?_ m0 ⟨0, [], _, J3, t3, fun b hb => (f3 b hb).1.1, w0⟩
    rintro n s4 ⟨i, ys, H4, J4, t4, n4, w4⟩
    show wpAny _ _ ((compTurn (.ListComp elt [⟨tg, iter, [], 0⟩] scope pos) 0 (.ref it) (.ref s2.heap.objs.size) X'.env).onRaise (fun x => do noteFrame x X'.env; theTreesLotGoes x)) _ _ s4
    refine wpAny_noted ?_
    rw [compTurn_list1]
    refine wpAny_bind (wpAny_standAt (wpAny_bind ?_))
    rcases turn i n ys H4 w4 with ⟨stop, q⟩ | ⟨go, step⟩
    · have z := T.done X' hp1 hp2 hp3 hp4 i [] s4 (σ0 σ) H4 (notedBy (model X.prog X.w) X.A X'.env fun e s' => R (.error e) s') J4 (stat n4) t4 stop
      rw [hp5] at z
      refine wpAny_mono z (fun r s5 ⟨hr, J5⟩ => ?_) fun _ _ x => x
      subst hr
      exact wpAny_pure (fin J5 q)
    · have z := T.item X' hp1 hp2 hp3 hp4 i [] s4 (σ0 σ) H4 (notedBy (model X.prog X.w) X.A X'.env fun e s' => R (.error e) s') J4 (stat n4) t4 go
      rw [hp5] at z
      refine wpAny_mono z (fun r s5 ⟨u, hr, h5⟩ => ?_) fun _ _ x => x
      subst hr
      refine wpAny_bind (wpAny_mono h5 (fun _ s6 ⟨x, H6, J6, r6, y6, t6, n6⟩ => ?_) fun _ _ x => x)
      have J6' := J6.pinned (stat n6) (T.obj _ _ t6)
      have zg := PG' _ s6 (σ0 σ) H6 x u _ J6' r6 (step x H6 y6)
      rw [hp1, hp2, hp5, hp7] at zg
      refine wpAny_bind (wpAny_mono zg (fun _ s7 ⟨σ7, H7, J7, k7, q7⟩ => ?_) fun _ _ x => x)
      have ze := PE' _ s7 σ7 H7 _ J7 q7
      rw [hp1, hp2, hp5, hp7] at ze
      refine wpAny_bind (wpAny_bind (wpAny_mono ze (fun yv s8 ⟨y, H8, J8, r8, e8, z8, m', hm, w8⟩ => ?_) fun _ _ x => x))
      have za := mt_append (X := X') _ s8 σ7 H8 (.ref s2.heap.objs.size) [y] (.ref s2.heap.objs.size) [yv] (fun _ H9 => H9 = upd H8 s2.heap.objs.size (.lst (ys ++ [y]))) J8 rfl (.cons r8 .nil) ⟨_, ys, y, rfl, rfl, e8, z8, rfl⟩
      rw [hp1, hp2, hp5, hp7] at za
      refine wpAny_bind (wpAny_mono za (fun _ s9 ⟨_, H9, J9, _, e9⟩ => ?_) fun _ _ x => x)
      subst e9
      refine wpAny_pure (wpAny_pure ⟨rfl, m', hm, i + 1, ys ++ [y], _, ?_, ?_, ?_, w8⟩)
      · refine J9.unpin.weak ?_ ?_
        · rw [S.len, J9.len]
          subst hX'
          rfl
        · exact k7
      · exact T.keep _ _ _ t6 fun b hb o e => (J9.pin (b, o) (List.mem_append_right _ (List.mem_append_right _ (mem_pinsAt hb e)))).1
      · intro b hb
        obtain ⟨o, e, d⟩ := T.obj _ _ t6 b hb
        exact (J9.pin (b, o) (List.mem_append_right _ (List.mem_append_right _ (mem_pinsAt hb e)))).2.1
  have l0 := loop _ I4 st3
  have l1 := codeAny_compStart_list l0 (T.self X.A 0 _ _ _ st3 l0)
  rw [hp6] at l1
  subst hR
  exact l1
end L2

namespace L2
open PySem PySem.Spec PyProof.Rows
/-! ### what zip and enumerate may be made of: a list, a tuple, a text -/
inductive Cp where
  | lst (a : Addr) | tup (a : Addr) | txt (x : Str)
def signsV (x : Str) : List V := x.cps.toList.map fun c => V.str ⟨#[c]⟩
def Cp.val : Cp → V
  | .lst a => .ref a
  | .tup a => .ref a
  | .txt x => .str x
def Cp.at (K : PySem.W.Frag) (H : Hp) : Cp → List V → Prop
  | .lst a => SqL K H a
  | .tup a => SqT K H a
  | .txt x => fun xs => xs = signsV x
def Cp.itr (h : Heap) (it : Addr) (i : Nat) : Cp → Prop
  | .lst a => h.IsListIter it a i
  | .tup a => h.IsTupleIter it a i
  | .txt x => ∃ t, h.IsStrIter it (strIterType x) x t i
def Cp.src (h : Heap) : Cp → List V → Prop
  | .lst a => fun xs => ∃ its, Vals xs its ∧ h.IsList a its.toArray
  | .tup a => fun xs => ∃ its, Vals xs its ∧ h.IsTuple a its.toArray
  | .txt x => fun xs => xs = signsV x
def Cp.off (b : Addr) : Cp → Prop
  | .lst a => a ≠ b
  | .tup a => a ≠ b
  | .txt _ => True
section
variable {X : Cx} {pins : List (Addr × Obj)} {σ : St} {H : Hp} {s : Shared} {c d : Cp} {xs ys : List V}
theorem Cp.src_of (I : Inv X pins σ H s) (h : c.at X.K H xs) : c.src s.heap xs := by
  cases c with
  | lst a => obtain ⟨its, r, p, _⟩ := I.list h; exact ⟨its, r, p.isList⟩
  | tup a => obtain ⟨its, r, p, _⟩ := I.tuple h; exact ⟨its, r, p⟩
  | txt x => exact h
theorem Cp.at_inj (I : Inv X pins σ H s) (h : c.at X.K H xs) (h' : c.at X.K H ys) : xs = ys := by
  cases c with
  | lst a => exact I.list_inj h h'
  | tup a => exact I.tuple_inj h h'
  | txt x => exact (show xs = signsV x from h).trans (show ys = signsV x from h').symm
theorem Cp.off_of {h : Heap} {b : Addr} {o : Obj} {T : String} (hs : c.src h xs) (hb : h.get? b = some o) (hc : o.cls = .type T) (n1 : T ≠ "list") (n2 : T ≠ "tuple") : c.off b := by
  cases c with
  | lst a =>
    obtain ⟨its, _, o', ho, hc', _⟩ := hs
    intro e
    rw [e, hb] at ho
    cases ho
    rw [hc] at hc'
    injection hc' with q
    exact n1 q
  | tup a =>
    obtain ⟨its, _, o', ho, hc', _⟩ := hs
    intro e
    rw [e, hb] at ho
    cases ho
    rw [hc] at hc'
    injection hc' with q
    exact n2 q
  | txt x => trivial
theorem Cp.off_new {h : Heap} {b : Addr} (hs : c.src h xs) (hb : h.objs.size ≤ b) : c.off b := by
  cases c with
  | lst a =>
    obtain ⟨its, _, o', ho, _⟩ := hs
    exact Nat.ne_of_lt (Nat.lt_of_lt_of_le (Heap.lt_size ho) hb)
  | tup a =>
    obtain ⟨its, _, o', ho, _⟩ := hs
    exact Nat.ne_of_lt (Nat.lt_of_lt_of_le (Heap.lt_size ho) hb)
  | txt x => trivial
theorem Cp.src_ext {h h' : Heap} {b : Addr} (hs : c.src h xs) (hx : Heap.ExtBut b h h') (ho : c.off b) : c.src h' xs := by
  cases c with
  | lst a => obtain ⟨its, r, p⟩ := hs; exact ⟨its, r, p.extBut hx ho⟩
  | tup a => obtain ⟨its, r, p⟩ := hs; exact ⟨its, r, p.extBut hx ho⟩
  | txt x => exact hs
theorem Cp.src_keep {h h' : Heap} (hs : c.src h xs) (hx : ∀ b o, h.get? b = some o → h'.get? b = some o) : c.src h' xs := by
  cases c with
  | lst a => obtain ⟨its, r, o, ho, q⟩ := hs; exact ⟨its, r, o, hx _ _ ho, q⟩
  | tup a => obtain ⟨its, r, o, ho, q⟩ := hs; exact ⟨its, r, o, hx _ _ ho, q⟩
  | txt x => exact hs
theorem Cp.itr_obj {h : Heap} {it : Addr} {i : Nat} (q : c.itr h it i) : ∃ o T vs, h.get? it = some o ∧ o.cls = .type T ∧ o.data = .fields vs ∧ T ≠ "list" ∧ T ≠ "tuple" := by
  cases c with
  | lst a => obtain ⟨o, ho, hc, hd⟩ := q; exact ⟨o, _, _, ho, hc, hd, by decide, by decide⟩
  | tup a => obtain ⟨o, ho, hc, hd⟩ := q; exact ⟨o, _, _, ho, hc, hd, by decide, by decide⟩
  | txt x =>
    obtain ⟨t, o, ho, hc, hd⟩ := q
    refine ⟨o, _, _, ho, hc, hd, ?_, ?_⟩
    · unfold strIterType; split <;> decide
    · unfold strIterType; split <;> decide
theorem Cp.itr_at {h h' : Heap} {it : Addr} {i : Nat} (q : c.itr h it i) (e : ∀ o, h.get? it = some o → h'.get? it = some o) : c.itr h' it i := by
  cases c with
  | lst a => obtain ⟨o, ho, r⟩ := q; exact ⟨o, e _ ho, r⟩
  | tup a => obtain ⟨o, ho, r⟩ := q; exact ⟨o, e _ ho, r⟩
  | txt x => obtain ⟨t, o, ho, r⟩ := q; exact ⟨t, o, e _ ho, r⟩
end
section
variable {prog : Program} {w : World} {A : Around} {E : Value → Shared → Prop} {s : Shared} {c d : Cp} {xs ys : List V}
theorem nextOf_tuple_item {it t : Addr} {i : Nat} {items} {x : Value} {Q : Value → Shared → Prop} (hit : s.heap.IsTupleIter it t i)
    (ht : s.heap.IsTuple t items) (hx : items[i]? = some x)
    (hQ : ∀ h', h'.IsTupleIter it t (i + 1) → Heap.SameBut it s.heap h' → Q x { s with heap := h' }) :
    wpAny (model prog w) A (Builtin.SmallTypes.nextOf (.ref it)) Q E s := by
  obtain ⟨o, ho, hc, hd⟩ := id hit
  obtain ⟨ol, hol, _, nl, hdl⟩ := ht
  unfold Builtin.SmallTypes.nextOf
  refine wpAny_bind (wpAny_callSpecial?_slot (name := Str.ofString "__next__") hit.typeIs F.slot_tuple_iterator_next
    (wpAny_call_entry F.slot_tuple_iterator_next hit.typeIs F.entry_tuple_iterator_next ?_ (F.args_tuple_iterator_next_1 _)))
  show wpAny _ _ (field (.ref it) 0 >>= _) _ _ s
  refine wpAny_bind (wpAny_field ho hd (x := .ref t) rfl ?_)
  show wpAny _ _ (if (Value.ref t == Value.none) = true then _ else _) _ _ s
  rw [if_neg (show ¬ ((Value.ref t == Value.none) = true) from Bool.false_ne_true)]
  show wpAny _ _ (field (.ref it) 1 >>= _) _ _ s
  refine wpAny_bind (wpAny_field ho hd (x := .int i 0) rfl ?_)
  show wpAny _ _ (seqItems? (.ref t) >>= _) _ _ s
  refine wpAny_bind (wpAny_seqItems hol hdl ?_)
  simp only [Int.toNat_natCast, hx]
  refine wpAny_bind (wpAny_setField ho hd (by simp) (wpAny_pure ⟨x, rfl, wpAny_pure (hQ _ ?_ (Heap.SameBut.update ..))⟩))
  exact ⟨_, Heap.get?_update_self _ ho (Obj.isFreed_of_fields (Obj.data_mapFields hd _)), (Obj.cls_mapFields ..).trans hc, by
    rw [Obj.data_mapFields hd]; simp [rawInt]⟩
theorem nextOf_tuple_end {it t : Addr} {i : Nat} {items} {Q : Value → Shared → Prop} (hh : A.handled = none)
    (hit : s.heap.IsTupleIter it t i) (ht : s.heap.IsTuple t items) (hx : items[i]? = none)
    (hE : ∀ h' e, Heap.ExtBut it s.heap h' → (∃ o, h'.get? e = some o ∧ o.cls = .type "StopIteration") → E (.ref e) { s with heap := h' }) :
    wpAny (model prog w) A (Builtin.SmallTypes.nextOf (.ref it)) Q E s := by
  obtain ⟨o, ho, hc, hd⟩ := id hit
  obtain ⟨ol, hol, _, nl, hdl⟩ := ht
  unfold Builtin.SmallTypes.nextOf
  refine wpAny_bind (wpAny_callSpecial?_slot (name := Str.ofString "__next__") hit.typeIs F.slot_tuple_iterator_next
    (wpAny_call_entry F.slot_tuple_iterator_next hit.typeIs F.entry_tuple_iterator_next ?_ (F.args_tuple_iterator_next_1 _)))
  show wpAny _ _ (field (.ref it) 0 >>= _) _ _ s
  refine wpAny_bind (wpAny_field ho hd (x := .ref t) rfl ?_)
  show wpAny _ _ (if (Value.ref t == Value.none) = true then _ else _) _ _ s
  rw [if_neg (show ¬ ((Value.ref t == Value.none) = true) from Bool.false_ne_true)]
  show wpAny _ _ (field (.ref it) 1 >>= _) _ _ s
  refine wpAny_bind (wpAny_field ho hd (x := .int i 0) rfl ?_)
  show wpAny _ _ (seqItems? (.ref t) >>= _) _ _ s
  refine wpAny_bind (wpAny_seqItems hol hdl ?_)
  simp only [Int.toNat_natCast, hx]
  refine wpAny_bind (wpAny_rule (wpAny_bind (wpAny_setField ho hd (by simp) ?_)))
  show wpAny _ _ (newExc (.type "StopIteration") [] >>= _) _ _ _
  refine wpAny_bind ?_
  simp only [newExc, newTuple]
  refine wpAny_bind (wpAny_newObj_type ?_ (by size_fits))
  refine wpAny_bind (m := firstArgMember _ _) (wpAny_of_eq (a := Value.none) (by first | rfl | (simp only [firstArgMember]; rfl)) ?_)
  refine wpAny_newObj_type ?_ (by size_fits)
  simp only [raiseNew]
  refine wpAny_bind (wpAny_handled ?_)
  first | rw [show A.in1.handled = none from hh] | rw [hh]
  refine wpAny_bind (wpAny_pure (wpAny_throw ?_))
  exact hE _ _ (((Heap.SameBut.update ..).extBut.push _).push _) ⟨_, Heap.get?_push_size _ rfl, rfl⟩
theorem signs_get {x : Str} {i : Nat} {v : V} (h : (signsV x)[i]? = some v) : ∃ k, x.cps[i]? = some k ∧ v = .str ⟨#[k]⟩ := by
  unfold signsV at h
  rw [List.getElem?_map] at h
  cases e : x.cps.toList[i]? with
  | none => rw [e] at h; cases h
  | some k =>
    rw [e] at h
    exact ⟨k, by simpa using e, (Option.some.inj h).symm⟩
theorem signs_end {x : Str} {i : Nat} (h : (signsV x)[i]? = none) : x.cps[i]? = none := by
  unfold signsV at h
  rw [List.getElem?_map] at h
  cases e : x.cps.toList[i]? with
  | none => simpa using e
  | some k => rw [e] at h; cases h
theorem Cp.item {it : Addr} {i : Nat} {x : V} {Q : Value → Shared → Prop} (hit : c.itr s.heap it i) (hs : c.src s.heap xs) (hx : xs[i]? = some x)
    (hQ : ∀ u h' tk, RelV x u → c.itr h' it (i + 1) → Heap.SameBut it s.heap h' → Q u { s with heap := h', toks := tk }) :
    wpAny (model prog w) A (Builtin.SmallTypes.nextOf (.ref it)) Q E s := by
  cases c with
  | lst a =>
    obtain ⟨its, r, p⟩ := hs
    obtain ⟨u, hu, ru⟩ := r.get hx
    exact wpAny_nextOf_list_item hit p (x := u) (by simpa using hu) fun h' q sb => hQ u h' s.toks ru q sb
  | tup a =>
    obtain ⟨its, r, p⟩ := hs
    obtain ⟨u, hu, ru⟩ := r.get hx
    exact nextOf_tuple_item hit p (x := u) (by simpa using hu) fun h' q sb => hQ u h' s.toks ru q sb
  | txt x' =>
    obtain ⟨t, q⟩ := hit
    rw [show xs = signsV x' from hs] at hx
    obtain ⟨k, hk, rfl⟩ := signs_get hx
    unfold strIterType at q
    by_cases ha : (x'.cps.all (· < 128)) = true
    · rw [if_pos ha] at q
      exact wpAny_nextOf_ascii_item q hk fun h' q' sb => hQ _ h' _ ⟨_, rfl⟩ ⟨t, by unfold strIterType; rw [if_pos ha]; exact q'⟩ sb
    · rw [if_neg ha] at q
      exact wpAny_nextOf_wide_item q hk fun h' q' sb => hQ _ h' _ ⟨_, rfl⟩ ⟨t, by unfold strIterType; rw [if_neg ha]; exact q'⟩ sb
theorem Cp.fin {it : Addr} {i : Nat} {Q : Value → Shared → Prop} (hh : A.handled = none) (hit : c.itr s.heap it i) (hs : c.src s.heap xs) (hx : xs[i]? = none)
    (hE : ∀ h' e, Heap.ExtBut it s.heap h' → (∃ o, h'.get? e = some o ∧ o.cls = .type "StopIteration") → E (.ref e) { s with heap := h' }) :
    wpAny (model prog w) A (Builtin.SmallTypes.nextOf (.ref it)) Q E s := by
  cases c with
  | lst a =>
    obtain ⟨its, r, p⟩ := hs
    exact wpAny_nextOf_list_end hh hit p (by simpa using r.none_of hx) hE
  | tup a =>
    obtain ⟨its, r, p⟩ := hs
    exact nextOf_tuple_end hh hit p (by simpa using r.none_of hx) hE
  | txt x' =>
    obtain ⟨t, q⟩ := hit
    rw [show xs = signsV x' from hs] at hx
    have hk := signs_end hx
    unfold strIterType at q
    by_cases ha : (x'.cps.all (· < 128)) = true
    · rw [if_pos ha] at q
      exact wpAny_nextOf_ascii_end hh q hk hE
    · rw [if_neg ha] at q
      exact wpAny_nextOf_wide_end hh q hk hE
/-! ### zip of two -/
structure ZipOff (z TI TO i1 i2 : Addr) : Prop where
  TIz : TI ≠ z
  TOz : TO ≠ z
  i1z : i1 ≠ z
  i2z : i2 ≠ z
  TITO : TI ≠ TO
  TIi1 : TI ≠ i1
  TIi2 : TI ≠ i2
  TOi1 : TO ≠ i1
  TOi2 : TO ≠ i2
  i12 : i1 ≠ i2
structure ZipSt (h : Heap) (z TI TO i1 i2 : Addr) (c d : Cp) (f0 : Value) (i : Nat) : Prop where
  zz : IsZip h z TI TO f0
  ti : IsPair h TI (.ref i1) (.ref i2)
  to : ∃ a b, IsPair h TO a b
  h1 : c.itr h i1 i
  h2 : d.itr h i2 i
  /-- its own pair is none of the two -/
  c1 : c.off TO
  c2 : d.off TO
theorem zip_item {z TI TO i1 i2 : Addr} {i : Nat} {x y : V} {Q : Option Value → Shared → Prop} (D : ZipOff z TI TO i1 i2) (Z : ZipSt s.heap z TI TO i1 i2 c d .none i)
    (sc : c.src s.heap xs) (sd : d.src s.heap ys) (hx : xs[i]? = some x) (hy : ys[i]? = some y)
    (hQ : ∀ u v h' tk, RelV x u → RelV y v → ZipSt h' z TI TO i1 i2 c d (rawInt s.heap.objs.size) (i + 1) → IsPair h' s.heap.objs.size u v →
      (∀ b o, b ≠ z → b ≠ TO → b ≠ i1 → b ≠ i2 → s.heap.get? b = some o → h'.get? b = some o) → Q (some (.ref s.heap.objs.size)) { s with heap := h', toks := tk }) :
    wpAny (model prog w) A (pyNext (.ref z)) Q E s := by
  obtain ⟨hz, hTI, ⟨a, b, hTO⟩, h1, h2, c1, c2⟩ := id Z
  have hT : s.TypeIs (.ref z) "zip" := ⟨_, hz, rfl⟩
  obtain ⟨oi1, T1, _, hi1, ci1, _, n11, n12⟩ := Cp.itr_obj h1
  obtain ⟨oi2, T2, _, hi2, ci2, _, n21, n22⟩ := Cp.itr_obj h2
  have cz : c.off z := Cp.off_of sc hz rfl (by decide) (by decide)
  have dz : d.off z := Cp.off_of sd hz rfl (by decide) (by decide)
  have ci : c.off i1 := Cp.off_of sc hi1 ci1 n11 n12
  have di : d.off i1 := Cp.off_of sd hi1 ci1 n11 n12
  unfold pyNext
  refine wpAny_bind (wpAny_attempt (wpAny_callSpecial?_slot (name := Str.ofString "__next__") hT F.slot_zip_next
    (wpAny_call_entry F.slot_zip_next hT F.entry_zip_next ?_ (F.args_zip_next_1 _))))
  show wpAny _ _ (field (.ref z) 2 >>= _) _ _ _
  refine wpAny_bind (wpAny_field hz rfl (x := .bool false) rfl ?_)
  show wpAny _ _ (field (.ref z) 3 >>= _) _ _ _
  refine wpAny_bind (wpAny_field hz rfl (x := .ref TI) rfl ?_)
  refine wpAny_bind (wpAny_seqItems hTI rfl ?_)
  show wpAny _ _ (Builtin.SmallTypes.ownedTupleIsFree (.ref z) >>= _) _ _ _
  refine wpAny_bind ?_
  unfold Builtin.SmallTypes.ownedTupleIsFree
  refine wpAny_bind (wpAny_field hz rfl (x := .none) rfl (wpAny_pure ?_))
  simp only [if_true]
  refine wpAny_bind (wpAny_rule ?_)
  refine wpAny_bind (wpAny_field hz rfl (x := .ref TO) rfl ?_)
  refine wpAny_bind (wpAny_setField_rec hz (by simp) fun h₁ hz₁ hs₁ => ?_)
  replace hz₁ : IsZip h₁ z TI TO .ellipsis := hz₁
  refine wpAny_bind ?_
  simp only [List.zipIdx_cons, List.zipIdx_nil, List.forIn_cons, List.forIn_nil]
  refine wpAny_bind (wpAny_bind (wpAny_onRaise ?_))
  show wpAny _ _ (Builtin.SmallTypes.nextOf (.ref i1) >>= _) _ _ _
  refine wpAny_bind (Cp.item (c := c) (Cp.itr_at h1 fun o e => hs₁.extBut _ _ D.i1z e) (Cp.src_ext sc hs₁.extBut cz) hx fun u h₂ tk₂ ru h1₂ hs₂ => wpAny_pure ?_)
  have hTO₂ : IsPair h₂ TO a b := hs₂.extBut _ _ D.TOi1 (hs₁.extBut _ _ D.TOz hTO)
  refine wpAny_bind (wpAny_seqItems hTO₂ rfl ?_)
  refine wpAny_bind (wpAny_updateSeq_pair hTO₂ fun h₃ hTO₃ hs₃ => ?_)
  replace hTO₃ : IsPair h₃ TO u b := hTO₃
  refine wpAny_bind (wpAny_letGo (wpAny_pure ?_))
  refine wpAny_bind (wpAny_bind (wpAny_onRaise ?_))
  show wpAny _ _ (Builtin.SmallTypes.nextOf (.ref i2) >>= _) _ _ _
  refine wpAny_bind (Cp.item (c := d) (Cp.itr_at h2 fun o e => hs₃.extBut _ _ D.TOi2.symm (hs₂.extBut _ _ D.i12.symm (hs₁.extBut _ _ D.i2z e))) (Cp.src_ext (Cp.src_ext (Cp.src_ext sd hs₁.extBut dz) hs₂.extBut di) hs₃.extBut c2) hy fun v h₄ tk₄ rv h2₄ hs₄ => wpAny_pure ?_)
  have hTO₄ : IsPair h₄ TO u b := hs₄.extBut _ _ D.TOi2 hTO₃
  refine wpAny_bind (wpAny_seqItems hTO₄ rfl ?_)
  refine wpAny_bind (wpAny_updateSeq_pair hTO₄ fun h₅ hTO₅ hs₅ => ?_)
  replace hTO₅ : IsPair h₅ TO u v := hTO₅
  refine wpAny_bind (wpAny_letGo (wpAny_pure (wpAny_pure ?_)))
  refine wpAny_bind (wpAny_seqItems hTO₅ rfl ?_)
  refine wpAny_bind (wpAny_newTuple ?_)
  have hsz : h₅.objs.size = s.heap.objs.size := by rw [hs₅.1, hs₄.1, hs₃.1, hs₂.1, hs₁.1]
  have hz₅ : IsZip h₅ z TI TO .ellipsis := hs₅.extBut _ _ D.TOz.symm (hs₄.extBut _ _ D.i2z.symm (hs₃.extBut _ _ D.TOz.symm (hs₂.extBut _ _ D.i1z.symm hz₁)))
  have hk₅ : ∀ e o, e ≠ z → e ≠ TO → e ≠ i1 → e ≠ i2 → s.heap.get? e = some o → h₅.get? e = some o := fun e o e1 e2 e3 e4 q =>
    hs₅.extBut _ _ e2 (hs₄.extBut _ _ e4 (hs₃.extBut _ _ e2 (hs₂.extBut _ _ e3 (hs₁.extBut _ _ e1 q))))
  have h1₅ : c.itr h₅ i1 (i + 1) := Cp.itr_at h1₂ fun o e => hs₅.extBut _ _ D.TOi1.symm (hs₄.extBut _ _ D.i12 (hs₃.extBut _ _ D.TOi1.symm e))
  have h2₅ : d.itr h₅ i2 (i + 1) := Cp.itr_at h2₄ fun o e => hs₅.extBut _ _ D.TOi2.symm e
  have hzlt : z < h₅.objs.size := Heap.lt_size hz₅
  show wpAny _ _ (Builtin.SmallTypes.ownedTupleHandOut (.ref z) (.ref h₅.objs.size) >>= _) _ _ _
  refine wpAny_bind ?_
  unfold Builtin.SmallTypes.ownedTupleHandOut
  have hz₆ : IsZip (h₅.push { cls := .type "tuple", data := .seq #[u, v] }) z TI TO .ellipsis := Heap.get?_push_of_some _ hz₅
  refine wpAny_bind (wpAny_setField_rec hz₆ (by simp) fun h₇ hz₇ hs₇ => ?_)
  replace hz₇ : IsZip h₇ z TI TO (rawInt h₅.objs.size) := hz₇
  refine wpAny_setField_rec hz₇ (by simp) fun h₈ hz₈ hs₈ => ?_
  replace hz₈ : IsZip h₈ z TI TO (rawInt h₅.objs.size) := hz₈
  have up : ∀ e o, e ≠ z → h₅.get? e = some o → h₈.get? e = some o := fun e o e1 q => hs₈.extBut _ _ e1 (hs₇.extBut _ _ e1 (Heap.get?_push_of_some _ q))
  have hT₈ : IsPair h₈ h₅.objs.size u v := hs₈.extBut _ _ (Nat.ne_of_gt hzlt) (hs₇.extBut _ _ (Nat.ne_of_gt hzlt) (Heap.get?_push_size _ rfl))
  rw [hsz] at hz₈ hT₈
  refine wpAny_pure ⟨_, rfl, wpAny_pure ?_⟩
  show Q (some (.ref h₅.objs.size)) _
  rw [hsz]
  exact hQ u v h₈ _ ru rv ⟨hz₈, up _ _ D.TIz (hk₅ _ _ D.TIz D.TITO D.TIi1 D.TIi2 hTI), ⟨_, _, up _ _ D.TOz hTO₅⟩, Cp.itr_at h1₅ fun o e => up _ o D.i1z e, Cp.itr_at h2₅ fun o e => up _ o D.i2z e, c1, c2⟩ hT₈
    fun e o e1 e2 e3 e4 q => up e o e1 (hk₅ e o e1 e2 e3 e4 q)
theorem zip_fin {z TI TO i1 i2 : Addr} {i : Nat} {Q : Option Value → Shared → Prop} (hh : A.handled = none) (D : ZipOff z TI TO i1 i2) (Z : ZipSt s.heap z TI TO i1 i2 c d .none i)
    (sc : c.src s.heap xs) (sd : d.src s.heap ys) (hend : xs[i]? = none ∨ ys[i]? = none)
    (hQ : ∀ h' tk, (∀ b o, b ≠ z → b ≠ TO → b ≠ i1 → b ≠ i2 → s.heap.get? b = some o → h'.get? b = some o) → Q none { s with heap := h', toks := tk }) :
    wpAny (model prog w) A (pyNext (.ref z)) Q E s := by
  obtain ⟨hz, hTI, ⟨a, b, hTO⟩, h1, h2, c1, c2⟩ := id Z
  have hT : s.TypeIs (.ref z) "zip" := ⟨_, hz, rfl⟩
  obtain ⟨oi1, T1, _, hi1, ci1, _, n11, n12⟩ := Cp.itr_obj h1
  have cz : c.off z := Cp.off_of sc hz rfl (by decide) (by decide)
  have dz : d.off z := Cp.off_of sd hz rfl (by decide) (by decide)
  have ci : c.off i1 := Cp.off_of sc hi1 ci1 n11 n12
  have di : d.off i1 := Cp.off_of sd hi1 ci1 n11 n12
  have stop : ∀ (h' : Heap) (e : Addr) (tk : Nat), (∃ o, h'.get? e = some o ∧ o.cls = .type "StopIteration") → (∀ b o, b ≠ z → b ≠ TO → b ≠ i1 → b ≠ i2 → s.heap.get? b = some o → h'.get? b = some o) →
      wpAny (model prog w) A (isInstance (.ref e) (.type "StopIteration") >>= fun b => if b = true then pure (none : Option Value) else throw (.ref e)) Q E { s with heap := h', toks := tk } := by
    intro h' e tk he hk
    obtain ⟨o, ho, hc⟩ := he
    refine wpAny_bind (wpAny_isInstance (T := "StopIteration") (b := true) ⟨o, ho, hc⟩ isSubtype_stop ?_)
    exact wpAny_pure (hQ _ _ hk)
  unfold pyNext
  refine wpAny_bind (wpAny_attempt (wpAny_callSpecial?_slot (name := Str.ofString "__next__") hT F.slot_zip_next
    (wpAny_call_entry F.slot_zip_next hT F.entry_zip_next ?_ (F.args_zip_next_1 _))))
  show wpAny _ _ (field (.ref z) 2 >>= _) _ _ _
  refine wpAny_bind (wpAny_field hz rfl (x := .bool false) rfl ?_)
  show wpAny _ _ (field (.ref z) 3 >>= _) _ _ _
  refine wpAny_bind (wpAny_field hz rfl (x := .ref TI) rfl ?_)
  refine wpAny_bind (wpAny_seqItems hTI rfl ?_)
  show wpAny _ _ (Builtin.SmallTypes.ownedTupleIsFree (.ref z) >>= _) _ _ _
  refine wpAny_bind ?_
  unfold Builtin.SmallTypes.ownedTupleIsFree
  refine wpAny_bind (wpAny_field hz rfl (x := .none) rfl (wpAny_pure ?_))
  simp only [if_true]
  refine wpAny_bind (wpAny_rule ?_)
  refine wpAny_bind (wpAny_field hz rfl (x := .ref TO) rfl ?_)
  refine wpAny_bind (wpAny_setField_rec hz (by simp) fun h₁ hz₁ hs₁ => ?_)
  replace hz₁ : IsZip h₁ z TI TO .ellipsis := hz₁
  refine wpAny_bind ?_
  simp only [List.zipIdx_cons, List.zipIdx_nil, List.forIn_cons, List.forIn_nil]
  refine wpAny_bind (wpAny_bind (wpAny_onRaise ?_))
  show wpAny _ _ (Builtin.SmallTypes.nextOf (.ref i1) >>= _) _ _ _
  cases hx : xs[i]? with
  | none =>
    refine wpAny_bind (Cp.fin (c := c) hh (Cp.itr_at h1 fun o e => hs₁.extBut _ _ D.i1z e) (Cp.src_ext sc hs₁.extBut cz) hx fun h₂ e hs₂ he => ?_)
    obtain ⟨oe, hoe, hce⟩ := he
    have hz₂ : IsZip h₂ z TI TO .ellipsis := hs₂ _ _ D.i1z.symm hz₁
    have hez : e ≠ z := fun x => by subst x; rw [hz₂] at hoe; cases hoe; simp at hce
    refine wpAny_setField_rec hz₂ (by simp) fun h₃ _ hs₃ => ?_
    exact stop h₃ e _ ⟨oe, hs₃.extBut _ _ hez hoe, hce⟩ fun k o c1 _ c3 _ x => hs₃.extBut _ _ c1 (hs₂ _ _ c3 (hs₁.extBut _ _ c1 x))
  | some x =>
    have hy : ys[i]? = none := by rcases hend with h | h; rw [hx] at h; cases h; exact h
    refine wpAny_bind (Cp.item (c := c) (Cp.itr_at h1 fun o e => hs₁.extBut _ _ D.i1z e) (Cp.src_ext sc hs₁.extBut cz) hx fun u h₂ tk₂ ru h1₂ hs₂ => wpAny_pure ?_)
    have hTO₂ : IsPair h₂ TO a b := hs₂.extBut _ _ D.TOi1 (hs₁.extBut _ _ D.TOz hTO)
    refine wpAny_bind (wpAny_seqItems hTO₂ rfl ?_)
    refine wpAny_bind (wpAny_updateSeq_pair hTO₂ fun h₃ hTO₃ hs₃ => ?_)
    refine wpAny_bind (wpAny_letGo (wpAny_pure ?_))
    refine wpAny_bind (wpAny_bind (wpAny_onRaise ?_))
    show wpAny _ _ (Builtin.SmallTypes.nextOf (.ref i2) >>= _) _ _ _
    refine wpAny_bind (Cp.fin (c := d) hh (Cp.itr_at h2 fun o e => hs₃.extBut _ _ D.TOi2.symm (hs₂.extBut _ _ D.i12.symm (hs₁.extBut _ _ D.i2z e))) (Cp.src_ext (Cp.src_ext (Cp.src_ext sd hs₁.extBut dz) hs₂.extBut di) hs₃.extBut c2) hy fun h₄ e hs₄ he => ?_)
    obtain ⟨oe, hoe, hce⟩ := he
    have hz₄ : IsZip h₄ z TI TO .ellipsis := hs₄ _ _ D.i2z.symm (hs₃.extBut _ _ D.TOz.symm (hs₂.extBut _ _ D.i1z.symm hz₁))
    have hez : e ≠ z := fun x => by subst x; rw [hz₄] at hoe; cases hoe; simp at hce
    refine wpAny_setField_rec hz₄ (by simp) fun h₅ _ hs₅ => ?_
    exact stop h₅ e _ ⟨oe, hs₅.extBut _ _ hez hoe, hce⟩ fun k o c1 c2 c3 c4 x => hs₅.extBut _ _ c1 (hs₄ _ _ c4 (hs₃.extBut _ _ c2 (hs₂.extBut _ _ c3 (hs₁.extBut _ _ c1 x))))
def Cp.itObj (t : Tok) : Cp → Obj
  | .lst a => { cls := .type "list_iterator", data := .fields #[.ref a, .int 0 0] }
  | .tup a => { cls := .type "tuple_iterator", data := .fields #[.ref a, .int 0 0] }
  | .txt x => { cls := .type (strIterType x), data := .fields #[.str x t, .int 0 0] }
def Cp.value (t : Tok) : Cp → Value
  | .lst a => .ref a
  | .tup a => .ref a
  | .txt x => .str x t
theorem Cp.value_of {u : Value} (r : RelV c.val u) : ∃ t, u = c.value t := by
  cases c with
  | lst a => exact ⟨0, r⟩
  | tup a => exact ⟨0, r⟩
  | txt x => exact r
theorem Cp.iter {t : Tok} {Q : Value → Shared → Prop} (hs : c.src s.heap xs) (hQ : Q (.ref s.heap.objs.size) { s with heap := s.heap.push (c.itObj t) }) : wpAny (model prog w) A (pyIter (c.value t)) Q E s := by
  cases c with
  | lst a => obtain ⟨its, _, p⟩ := hs; exact wpAny_pyIter_list p hQ
  | tup a => obtain ⟨its, _, p⟩ := hs; exact wpAny_pyIter_tuple p hQ
  | txt x => exact wpAny_pyIter_strU hQ
theorem Cp.itr_new {t : Tok} {h : Heap} {it : Addr} (e : h.get? it = some (c.itObj t)) : c.itr h it 0 := by
  cases c with
  | lst a => exact ⟨_, e, rfl, rfl⟩
  | tup a => exact ⟨_, e, rfl, rfl⟩
  | txt x => exact ⟨t, _, e, rfl, rfl⟩
abbrev zH1 (h : Heap) (o1 : Obj) : Heap := h.push o1
abbrev zH2 (h : Heap) (o1 o2 : Obj) : Heap := (zH1 h o1).push o2
abbrev zH3 (h : Heap) (o1 o2 : Obj) : Heap := (zH2 h o1 o2).push { cls := .type "tuple", data := .seq #[.ref h.objs.size, .ref (zH1 h o1).objs.size] }
abbrev zH4 (h : Heap) (o1 o2 : Obj) : Heap := (zH3 h o1 o2).push { cls := .type "tuple", data := .seq #[.none, .none] }
abbrev zH5 (h : Heap) (o1 o2 : Obj) : Heap := (zH4 h o1 o2).push { cls := .type "zip", data := .fields #[.none, .bool false, .bool false, .ref (zH2 h o1 o2).objs.size, .ref (zH3 h o1 o2).objs.size] }
theorem meets_zip (c d : Cp) (t1 t2 : Tok) (xs ys : List V) :
    Meets (Builtin.«zip.__new__» ⟨[.type "zip", c.value t1, d.value t2], []⟩) (fun _ R s => c.src s.heap xs ∧ d.src s.heap ys ∧
      R (.ok (.ret (.ref (zH4 s.heap (c.itObj t1) (d.itObj t2)).objs.size))) { s with heap := zH5 s.heap (c.itObj t1) (d.itObj t2) }) :=
  .of_wp fun prog w A R s h => by
    obtain ⟨hp, g, dd, tk, os⟩ := s; obtain ⟨hl1, hl2, h⟩ := h
    have hsub := sub_zip
    have hL1 : c.src (Shared.heap ⟨hp, g, dd, tk, os⟩) xs := hl1
    have hL2 : d.src (Shared.heap ⟨hp.push (c.itObj t1), g, dd, tk, os⟩) ys := Cp.src_keep hl2 fun b o e => Heap.get?_push_of_some _ e
    wp_walk using Cp.iter (t := t1) hL1, Cp.iter (t := t2) hL2
    exact ⟨_, rfl, h⟩
theorem call_zipC {t1 t2 : Tok} {Q : Value → Shared → Prop} (sc : c.src s.heap xs) (sd : d.src s.heap ys)
    (h : ∀ h', IsZip h' (s.heap.objs.size + 4) (s.heap.objs.size + 2) (s.heap.objs.size + 3) .none → IsPair h' (s.heap.objs.size + 2) (.ref s.heap.objs.size) (.ref (s.heap.objs.size + 1)) →
      IsPair h' (s.heap.objs.size + 3) .none .none → c.itr h' s.heap.objs.size 0 → d.itr h' (s.heap.objs.size + 1) 0 → (∀ b o, s.heap.get? b = some o → h'.get? b = some o) → Q (.ref (s.heap.objs.size + 4)) { s with heap := h' }) :
    wpAny (model prog w) A (call (.type "zip") [c.value t1, d.value t2]) Q E s := by
  refine callType_new F.called_zip (by decide) (F.typeCall_zip_2 _ _) (F.newCall_zip_2 _ _) (fun obj => F.args_object_init_3 obj _ _) F.entry_zip_new
    (meets_zip c d t1 t2 xs ys) ⟨sc, sd, ?_⟩
  have z1 : (zH1 s.heap (c.itObj t1)).objs.size = s.heap.objs.size + 1 := Heap.size_push ..
  have z2 : (zH2 s.heap (c.itObj t1) (d.itObj t2)).objs.size = s.heap.objs.size + 2 := by rw [Heap.size_push, z1]
  have z3 : (zH3 s.heap (c.itObj t1) (d.itObj t2)).objs.size = s.heap.objs.size + 3 := by rw [Heap.size_push, z2]
  have z4 : (zH4 s.heap (c.itObj t1) (d.itObj t2)).objs.size = s.heap.objs.size + 4 := by rw [Heap.size_push, z3]
  have it1 : (c.itObj t1).isFreed = false := by cases c <;> rfl
  have it2 : (d.itObj t2).isFreed = false := by cases d <;> rfl
  have g5 : (zH5 s.heap (c.itObj t1) (d.itObj t2)).get? (zH4 s.heap (c.itObj t1) (d.itObj t2)).objs.size = some _ := Heap.get?_push_size _ rfl
  have g4 : (zH5 s.heap (c.itObj t1) (d.itObj t2)).get? (zH3 s.heap (c.itObj t1) (d.itObj t2)).objs.size = some _ := Heap.get?_push_of_some _ (Heap.get?_push_size _ rfl)
  have g3 : (zH5 s.heap (c.itObj t1) (d.itObj t2)).get? (zH2 s.heap (c.itObj t1) (d.itObj t2)).objs.size = some _ := Heap.get?_push_of_some _ (Heap.get?_push_of_some _ (Heap.get?_push_size _ rfl))
  have g2 : (zH5 s.heap (c.itObj t1) (d.itObj t2)).get? (zH1 s.heap (c.itObj t1)).objs.size = some _ := Heap.get?_push_of_some _ (Heap.get?_push_of_some _ (Heap.get?_push_of_some _ (Heap.get?_push_size _ it2)))
  have g1 : (zH5 s.heap (c.itObj t1) (d.itObj t2)).get? s.heap.objs.size = some _ := Heap.get?_push_of_some _ (Heap.get?_push_of_some _ (Heap.get?_push_of_some _ (Heap.get?_push_of_some _ (Heap.get?_push_size _ it1))))
  show _ ∧ _
  rw [z2, z3, z4] at g5
  rw [z1, z2] at g3
  rw [z3] at g4
  rw [z1] at g2
  rw [z4]
  exact ⟨⟨_, g5, rfl⟩, h _ g5 g3 g4 (Cp.itr_new g1) (Cp.itr_new g2) fun b o x =>
    Heap.get?_push_of_some _ (Heap.get?_push_of_some _ (Heap.get?_push_of_some _ (Heap.get?_push_of_some _ (Heap.get?_push_of_some _ x))))⟩
end
section
variable {X : Cx} {pins : List (Addr × Obj)} {σ : St} {H : Hp} {s : Shared}
theorem Inv.moved {h' : Heap} {t' : Nat} {ch : List Addr} (I : Inv X pins σ H s) (k : ∀ b o, b ∉ ch → s.heap.get? b = some o → h'.get? b = some o) (hf : ∀ b ∈ ch, FpOk X pins H b) : Inv X pins σ H { s with heap := h', toks := t' } := by
  have nch : ∀ b u, H b = some u → b ∉ ch := fun b u e z => by rw [(hf b z).1] at e; cases e
  refine I.step (g' := s.gens) (d' := s.drawn) (ch := ch) (fun b hb => ?_) (fun b o _ _ hc e _ => k b o hc e) (fun b o _ _ hc e _ => ⟨o.slots, k b o hc e⟩) (fun _ _ _ _ n => n)
    (fun b o hc e => ⟨o, k b o hc e⟩) (fun _ _ e => e) (fun _ _ _ e => e) (fun b ps e => ⟨#[], by rw [e]; simp⟩) (fun m hm => ?_) (fun b u e => ?_) I.bare
  · obtain ⟨_, h1, _, h3, h4, h5⟩ := hf b hb
    exact ⟨h3, h1, h4, h5⟩
  · obtain ⟨o, es, ep, ho, r⟩ := hm
    exact ⟨o, es, ep, k _ o (fun z => (hf _ z).2.1 rfl) ho, r⟩
  · refine (I.hok b u e).stay (fun c v hc q => k c v ?_ q) (fun _ q => q) fun _ _ q => q
    rcases hc with z | z
    · rw [z]; exact nch b u e
    · exact nch c _ z
theorem Inv.track {a : Addr} {o : HO} (I : Inv X pins σ H s) (hf : FpOk X pins H a) (new : ObjOk X.prog X.w (upd H a o) s.heap a o) : Inv X pins σ (upd H a o) s := by
  have hn := hf.1
  have e : s = { s with heap := s.heap, gens := s.gens, drawn := s.drawn, toks := s.toks } := rfl
  rw [e]
  refine I.step (ch := [a]) (fun b hb => ?_) (fun _ _ _ _ _ e _ => e) (fun _ o _ _ _ e _ => ⟨o.slots, e⟩) (fun b _ hc _ n => ?_)
    (fun _ o _ e => ⟨o, e⟩) (fun b _ e => ?_) (fun b _ _ e => ?_) (fun b ps e => ⟨#[], ?_⟩) (fun _ hm => hm) (fun b u q => ?_) I.bare
  · have eb : b = a := by simpa using hb
    subst eb
    obtain ⟨_, h1, _, h3, h4, h5⟩ := hf
    exact ⟨h3, h1, h4, h5⟩
  · rw [upd_ne (fun z => hc (by simp [z]))]; exact n
  · rw [upd_ne (ne_of_none e hn)]; exact e
  · rw [upd_ne (ne_of_none e hn)]; exact e
  · rw [upd_ne (ne_of_none e hn), e]; simp
  · by_cases hb : b = a
    · subst hb; rw [upd_same] at q; cases q; exact new
    · rw [upd_ne hb] at q
      exact (I.hok b u q).stay (fun c v _ r => r) (fun c r => by rw [upd_ne (ne_of_none r hn)]; exact r) fun c xs r => by rw [upd_ne (ne_of_none r hn)]; exact r
def Itz (K : PySem.W.Frag) (c d : Cp) : It :=
  ⟨fun i H => ∃ xs ys x y, c.at K H xs ∧ d.at K H ys ∧ xs[i]? = some x ∧ ys[i]? = some y,
   fun i H v H' => ∃ p x y, v = .ref p ∧ H p = none ∧ H' = upd H p (.tup [x, y]) ∧ ∀ xs ys, c.at K H xs → d.at K H ys → xs[i]? = some x ∧ ys[i]? = some y,
   fun i H => ∃ xs ys, c.at K H xs ∧ d.at K H ys ∧ (xs.length ≤ i ∨ ys.length ≤ i)⟩
theorem turn_zip {P : Program} {w : World} {K : PySem.W.Frag} {elts : List Expr} {k : Nat} {pos : Pos} {c d : Cp} {z TI TO i1 i2 : Addr} (D : ZipOff z TI TO i1 i2) :
    Turn P w K (.Tuple elts k pos) (Itz K c d) [z, TI, TO, i1, i2] z (fun i h => ZipSt h z TI TO i1 i2 c d .none i) where
  mem := by simp
  obj := fun i h Z b hb => by
    obtain ⟨hz, hTI, ⟨a, b', hTO⟩, h1, h2, _, _⟩ := Z
    obtain ⟨oi1, T1, v1, hi1, _, d1, _⟩ := Cp.itr_obj h1
    obtain ⟨oi2, T2, v2, hi2, _, d2, _⟩ := Cp.itr_obj h2
    simp only [List.mem_cons, List.not_mem_nil, or_false] at hb
    rcases hb with rfl | rfl | rfl | rfl | rfl
    · exact ⟨_, hz, fun v q => by cases q⟩
    · exact ⟨_, hTI, fun v q => by cases q⟩
    · exact ⟨_, hTO, fun v q => by cases q⟩
    · exact ⟨_, hi1, fun v q => by rw [d1] at q; cases q⟩
    · exact ⟨_, hi2, fun v q => by rw [d2] at q; cases q⟩
  keep := fun i h h' Z kp => by
    obtain ⟨hz, hTI, ⟨a, b', hTO⟩, h1, h2, o1, o2⟩ := Z
    exact ⟨kp z (by simp) _ hz, kp TI (by simp) _ hTI, ⟨a, b', kp TO (by simp) _ hTO⟩, Cp.itr_at h1 fun o e => kp i1 (by simp) o e, Cp.itr_at h2 fun o e => kp i2 (by simp) o e, o1, o2⟩
  item := by
    intro X hP hw hK hc i pins s σ H E I hf Z hg
    subst hP hw hK
    obtain ⟨xs, ys, x, y, hx, hy, ex, ey⟩ := hg
    have sc := Cp.src_of I hx
    have sd := Cp.src_of I hy
    refine zip_item D Z sc sd ex ey fun u v h' tk ru rv Z' hp kk => ⟨_, rfl, ?_⟩
    refine wpAny_letOwnedTupleGo_zip Z'.zz fun h'' hz'' sb => ?_
    have hnz : s.heap.objs.size ≠ z := Nat.ne_of_gt (Heap.lt_size Z.zz)
    have k2 : ∀ b o, b ∉ [z, TI, TO, i1, i2] → s.heap.get? b = some o → h''.get? b = some o := fun b o hb e => by
      simp only [List.mem_cons, List.not_mem_nil, or_false, not_or] at hb
      exact sb.extBut _ _ hb.1 (kk b o hb.1 hb.2.2.1 hb.2.2.2.1 hb.2.2.2.2 e)
    have I1 : Inv X pins σ H { s with heap := h'', toks := tk } := I.moved k2 hf
    have hn : H s.heap.objs.size = none := I.fresh
    have fok : FpOk X pins H s.heap.objs.size := I.fpOk (Nat.le_refl _) hn
    have hp2 : IsPair h'' s.heap.objs.size u v := sb.extBut _ _ hnz hp
    have I2 : Inv X pins σ (upd H s.heap.objs.size (.tup [x, y])) { s with heap := h'', toks := tk } :=
      I1.track fok ⟨by show 2 ≤ sizeLine; decide, [u, v], .cons ru (.cons rv .nil), ⟨_, hp2, rfl, _, rfl⟩⟩
    refine ⟨.ref s.heap.objs.size, _, I2, rfl, ⟨_, x, y, rfl, hn, rfl, fun xs' ys' hx' hy' => ?_⟩, ?_, fun b hb => ?_⟩
    · rw [Cp.at_inj I hx' hx, Cp.at_inj I hy' hy]; exact ⟨ex, ey⟩
    · obtain ⟨_, hTI, ⟨a, b', hTO⟩, h1, h2, o1, o2⟩ := Z'
      exact ⟨hz'', sb.extBut _ _ D.TIz hTI, ⟨a, b', sb.extBut _ _ D.TOz hTO⟩, Cp.itr_at h1 fun o e => sb.extBut _ _ D.i1z e, Cp.itr_at h2 fun o e => sb.extBut _ _ D.i2z e, o1, o2⟩
    · have lt : b < s.heap.objs.size := by
        obtain ⟨hz, hTI, ⟨a, b', hTO⟩, h1, h2, _, _⟩ := Z
        obtain ⟨oi1, T1, v1, hi1, _, d1, _⟩ := Cp.itr_obj h1
        obtain ⟨oi2, T2, v2, hi2, _, d2, _⟩ := Cp.itr_obj h2
        simp only [List.mem_cons, List.not_mem_nil, or_false] at hb
        rcases hb with rfl | rfl | rfl | rfl | rfl
        · exact Heap.lt_size hz
        · exact Heap.lt_size hTI
        · exact Heap.lt_size hTO
        · exact Heap.lt_size hi1
        · exact Heap.lt_size hi2
      rw [upd_ne (Nat.ne_of_lt lt)]
      exact (hf b hb).1
  done := by
    intro X hP hw hK hc i pins s σ H E I hf Z hg
    subst hP hw hK
    obtain ⟨xs, ys, hx, hy, he⟩ := hg
    refine zip_fin (I.ok.hd hc) D Z (Cp.src_of I hx) (Cp.src_of I hy) (he.imp (fun q => List.getElem?_eq_none q) fun q => List.getElem?_eq_none q) fun h' tk kk => ⟨rfl, ?_⟩
    exact I.moved (fun b o hb e => by
      simp only [List.mem_cons, List.not_mem_nil, or_false, not_or] at hb
      exact kk b o hb.1 hb.2.2.1 hb.2.2.2.1 hb.2.2.2.2 e) hf
  self := fun _ _ _ _ _ Z h => wpAny_pyIter_zip Z.zz h
theorem zipOff_new (n : Nat) : ZipOff (n + 4) (n + 2) (n + 3) n (n + 1) := by
  have ne : ∀ {a b : Nat}, a < b → a ≠ b := fun h => Nat.ne_of_lt h
  exact ⟨ne (by omega), ne (by omega), ne (by omega), ne (by omega), ne (by omega), (ne (by omega)).symm, (ne (by omega)).symm, (ne (by omega)).symm, (ne (by omega)).symm, ne (by omega)⟩
def iZip (K : PySem.W.Frag) (ta : TA) : TI := fun σ H R => ta σ H fun vs H1 => ∃ c d xs ys, vs = [c.val, d.val] ∧ c.at K H1 xs ∧ d.at K H1 ys ∧ R (Itz K c d) H1
theorem pi_zip {a b : Expr} {ta : TA} {p pos : Pos} {elts : List Expr} {k : Nat} {tpos : Pos} (hc : X.calm = true) (hg : Gl X "zip") (hm : X.mg "zip" = none) (ha : PA X [a, b] ta)
    (hs : starEach [a, b] X.env = [(false, eval a X.env), (false, eval b X.env)] := by rfl) (hs2 : starEach [b] X.env = [(false, eval b X.env)] := by rfl) :
    PI X (.Tuple elts k tpos) (.Call (.Name "zip" p) [a, b] [] pos) (iZip X.K ta) := by
  intro pins s σ H R I h
  refine Call_ (ld_blt I hg hm boot_zip (PyProof.Rows.callWith_type1 (thn (ha pos pins s σ H _ I h) fun us s1 ⟨vs, H1, I1, r1, q1⟩ => ?_) (by rw [hs, hs2]) (by rw [hs2]; rfl)))
  obtain ⟨c, d, xs, ys, e, hx, hy, q⟩ := q1
  subst e
  obtain ⟨u, v, rfl, ru, rv⟩ := vals2 r1
  obtain ⟨t1, rfl⟩ := Cp.value_of ru
  obtain ⟨t2, rfl⟩ := Cp.value_of rv
  have sc := Cp.src_of I1 hx
  have sd := Cp.src_of I1 hy
  refine call_zipC sc sd fun h' hz hTI hTO h1 h2 kk => wpAny_pyIter_zip hz ?_
  have D : ZipOff (s1.heap.objs.size + 4) (s1.heap.objs.size + 2) (s1.heap.objs.size + 3) s1.heap.objs.size (s1.heap.objs.size + 1) :=
    zipOff_new _
  refine ⟨_, [s1.heap.objs.size + 4, s1.heap.objs.size + 2, s1.heap.objs.size + 3, s1.heap.objs.size, s1.heap.objs.size + 1], _, _, H1, rfl, I1.kept (t' := s1.toks) kk, turn_zip D,
    ⟨hz, hTI, ⟨_, _, hTO⟩, h1, h2, Cp.off_new sc (Nat.le_add_right _ 3), Cp.off_new sd (Nat.le_add_right _ 3)⟩, fun b hb => ?_, q⟩
  have le : s1.heap.objs.size ≤ b := by
    simp only [List.mem_cons, List.not_mem_nil, or_false] at hb
    rcases hb with rfl | rfl | rfl | rfl | rfl
    · exact Nat.le_add_right _ _
    · exact Nat.le_add_right _ _
    · exact Nat.le_add_right _ _
    · exact Nat.le_refl _
    · exact Nat.le_add_right _ _
  exact I1.fpOk le (I1.hok.fresh le)
end
end L2

namespace L2
open PySem PySem.Spec PyProof.Rows
/-! ### a text, sign by sign -/
def Its (x : Str) : It := ⟨fun i _ => i < x.cps.size, fun i H v H' => H' = H ∧ ∃ k, x.cps[i]? = some k ∧ v = .str ⟨#[k]⟩, fun i _ => x.cps.size ≤ i⟩
section
variable {prog : Program} {w : World} {A : Around} {E : Value → Shared → Prop} {s : Shared}
theorem pyNext_txt_item {it : Addr} {x : Str} {t : Tok} {i k : Nat} {Q : Option Value → Shared → Prop} (hit : s.heap.IsStrIter it (strIterType x) x t i) (hx : x.cps[i]? = some k)
    (hQ : ∀ h', h'.IsStrIter it (strIterType x) x t (i + 1) → Heap.SameBut it s.heap h' → Q (some (.str ⟨#[k]⟩ s.toks)) { s with heap := h', toks := s.toks + 1 }) : wpAny (model prog w) A (pyNext (.ref it)) Q E s := by
  unfold strIterType at hit hQ
  by_cases ha : (x.cps.all (· < 128)) = true
  · rw [if_pos ha] at hit hQ
    exact wpAny_pyNext_ascii_item hit hx hQ
  · rw [if_neg ha] at hit hQ
    exact wpAny_pyNext_wide_item hit hx hQ
theorem pyNext_txt_end {it : Addr} {x : Str} {t : Tok} {i : Nat} {Q : Option Value → Shared → Prop} (hh : A.handled = none) (hit : s.heap.IsStrIter it (strIterType x) x t i) (hx : x.cps[i]? = none)
    (hQ : ∀ h', Heap.ExtBut it s.heap h' → Q none { s with heap := h' }) : wpAny (model prog w) A (pyNext (.ref it)) Q E s := by
  unfold strIterType at hit
  by_cases ha : (x.cps.all (· < 128)) = true
  · rw [if_pos ha] at hit
    exact wpAny_pyNext_ascii_end hh hit hx hQ
  · rw [if_neg ha] at hit
    exact wpAny_pyNext_wide_end hh hit hx hQ
theorem pyIter_txtiter {it : Addr} {x : Str} {t : Tok} {i : Nat} {Q : Value → Shared → Prop} (hit : s.heap.IsStrIter it (strIterType x) x t i) (h : Q (.ref it) s) : wpAny (model prog w) A (pyIter (.ref it)) Q E s := by
  unfold strIterType at hit
  by_cases ha : (x.cps.all (· < 128)) = true
  · rw [if_pos ha] at hit
    exact wpAny_pyIter_striter_ascii hit h
  · rw [if_neg ha] at hit
    exact wpAny_pyIter_striter_wide hit h
end
theorem strIter_notOwned (x : Str) : ["enumerate", "zip", "dict_itemiterator", "dict_reverseitemiterator", "odict_iterator", "itertools.zip_longest", "itertools.pairwise"].contains (strIterType x) = false := by
  unfold strIterType
  split <;> decide
theorem turn_txt {P : Program} {w : World} {K : PySem.W.Frag} {tg : Expr} (x : Str) (t : Tok) (it : Addr) : Turn P w K tg (Its x) [it] it (fun i h => h.IsStrIter it (strIterType x) x t i) where
  mem := by simp
  obj := fun i h st b hb => by
    have e : b = it := by simpa using hb
    subst e
    obtain ⟨o, e, c, d⟩ := st
    exact ⟨o, e, fun v z => by rw [d] at z; cases z⟩
  keep := fun i h h' st k => by
    obtain ⟨o, e, r⟩ := st
    exact ⟨o, k it (by simp) o e, r⟩
  item := by
    intro X hP hw hK hc i pins s σ H E I hf st hg
    subst hP hw hK
    have hi : i < x.cps.size := hg
    obtain ⟨f0, f1, f2, f3, f4, f5⟩ := hf it (by simp)
    refine pyNext_txt_item st (k := x.cps[i]) (by simp [hi]) fun h' st' sb => ?_
    have I1 : Inv X pins σ H { s with heap := h', toks := s.toks + 1 } := I.turned (fun b o hb e => (sb.2 b hb).trans e) f0 f1 f3 f4 f5
    obtain ⟨o, e, c, d⟩ := id st'
    exact ⟨_, rfl, go_of (s := { s with heap := h', toks := s.toks + 1 }) e c d (strIter_notOwned x) ⟨.str ⟨#[x.cps[i]]⟩, H, I1, ⟨_, rfl⟩, ⟨rfl, _, by simp [hi], rfl⟩, st', fun b hb => (hf b hb).1⟩⟩
  done := by
    intro X hP hw hK hc i pins s σ H E I hf st hg
    subst hP hw hK
    have hi : x.cps.size ≤ i := hg
    obtain ⟨f0, f1, f2, f3, f4, f5⟩ := hf it (by simp)
    exact pyNext_txt_end (I.ok.hd hc) st (by simp [hi]) fun h' eb => ⟨rfl, I.turned (t' := s.toks) (fun b o hb e => eb b o hb e) f0 f1 f3 f4 f5⟩
  self := fun _ _ _ _ _ st h => pyIter_txtiter st h
section
variable {X : Cx} {tg : Expr}
def iTxt (tl : TE) : TI := fun σ H R => tl σ H fun v H1 => ∃ x, v = .str x ∧ R (Its x) H1
theorem pi_txt {l : Expr} {tl : TE} (hl : PE X l tl) : PI X tg l (iTxt tl) := by
  intro pins s σ H R I h
  refine thn (hl pins s σ H _ I h) fun v s1 ⟨y, H1, I1, r1, q1⟩ => ?_
  obtain ⟨x, e, q⟩ := q1
  subst e
  obtain ⟨t, rfl⟩ := r1
  refine wpAny_pyIter_strU ?_
  refine ⟨s1.heap.objs.size, [s1.heap.objs.size], _, _, H1, rfl, I1.kept (t' := s1.toks) fun b o e => Heap.get?_push_of_some _ e, turn_txt x t _, ⟨_, Heap.get?_push_size _ rfl, rfl, rfl⟩, fun b hb => ?_, q⟩
  have e : b = s1.heap.objs.size := by simpa using hb
  subst e
  exact I1.fpOk (Nat.le_refl _) (I1.hok.fresh (Nat.le_refl _))
theorem for_txt {x : Str} {g : TG} {tb : TS} {D : Ends} {σ : St} {H : Hp} (Pv : Nat → St → Hp → Prop) (h0 : Pv 0 σ H)
    (hs : ∀ i k σ H, x.cps[i]? = some k → Pv i σ H → g (.str ⟨#[k]⟩) σ H fun σ2 H2 => tb { D with nx := Pv (i + 1), ct := Pv (i + 1), bk := D.nx } σ2 H2) (hd : ∀ σ H, Pv x.cps.size σ H → D.nx σ H) :
    ∃ W : Nat → Nat → St → Hp → Prop, (∃ m, W 0 m σ H) ∧ ∀ i m σ H, W i m σ H →
      ((Its x).stop i H ∧ D.nx σ H) ∨ ((Its x).go i H ∧ ∃ N : St → Hp → Prop, (∀ σ' H', N σ' H' → ∃ m', m' < m ∧ W (i + 1) m' σ' H') ∧ ∀ y H', (Its x).yld i H y H' → g y σ H' fun σ2 H2 => tb { D with nx := N, ct := N, bk := D.nx } σ2 H2) := by
  refine ⟨fun i m σ H => m = x.cps.size - i ∧ i ≤ x.cps.size ∧ Pv i σ H, ⟨x.cps.size, by simp, Nat.zero_le _, h0⟩, ?_⟩
  rintro i m σ H ⟨rfl, hi, p⟩
  by_cases hlt : i < x.cps.size
  · refine .inr ⟨hlt, Pv (i + 1), fun σ' H' p' => ⟨x.cps.size - (i + 1), by omega, rfl, hlt, p'⟩, fun y H' q => ?_⟩
    obtain ⟨e, k, ek, rfl⟩ := q
    subst e
    exact hs i k σ _ ek p
  · have e : i = x.cps.size := by omega
    subst e
    exact .inl ⟨Nat.le_refl _, hd σ H p⟩
end
end L2

namespace L2
open PySem PySem.Spec PyProof.Rows
/-! ### enumerate -/
def Cp.adr : Cp → List Addr
  | .lst a => [a]
  | .tup a => [a]
  | .txt _ => []
theorem Cp.off_adr {c : Cp} {b : Addr} (h : c.off b) : b ∉ c.adr := by
  cases c with
  | lst a =>
    intro z
    have q : b = a := by simpa [Cp.adr] using z
    exact h q.symm
  | tup a =>
    intro z
    have q : b = a := by simpa [Cp.adr] using z
    exact h q.symm
  | txt x => intro z; cases z
theorem Cp.src_adr {c : Cp} {xs : List V} {h h' : Heap} (hs : c.src h xs) (k : ∀ b ∈ c.adr, ∀ o, h.get? b = some o → h'.get? b = some o) : c.src h' xs := by
  cases c with
  | lst a => obtain ⟨its, r, o, ho, q⟩ := hs; exact ⟨its, r, o, k a (by simp [Cp.adr]) _ ho, q⟩
  | tup a => obtain ⟨its, r, o, ho, q⟩ := hs; exact ⟨its, r, o, k a (by simp [Cp.adr]) _ ho, q⟩
  | txt x => exact hs
theorem Cp.draws {prog : Program} {w : World} {A : Around} {c : Cp} {xs : List V} (hh : A.handled = none) (it : Addr) :
    Draws prog w A it (it :: c.adr) xs.length (fun i v => ∃ x, xs[i]? = some x ∧ RelV x v) (fun i h => c.itr h it i ∧ c.src h xs) where
  live := fun i h st => by
    obtain ⟨o, _, _, ho, _⟩ := Cp.itr_obj st.1
    exact ⟨o, ho⟩
  frame := fun i h h' st k => ⟨Cp.itr_at st.1 fun o e => k it (by simp) o e, Cp.src_adr st.2 fun b hb o e => k b (List.mem_cons_of_mem _ hb) o e⟩
  item := fun i s Q E hi st hQ => by
    obtain ⟨o, T, _, ho, hc, _, n1, n2⟩ := Cp.itr_obj st.1
    have off : c.off it := Cp.off_of st.2 ho hc n1 n2
    refine Cp.item st.1 st.2 (x := xs[i]) (by simp [hi]) fun u h' tk ru q sb => ?_
    exact hQ u h' tk ⟨_, by simp [hi], ru⟩ ⟨q, Cp.src_ext st.2 sb.extBut off⟩ sb
  done := fun s Q E st hE => Cp.fin hh st.1 st.2 (by simp) hE
def Ite (K : PySem.W.Frag) (c : Cp) : It :=
  ⟨fun i H => ∃ xs x, c.at K H xs ∧ xs[i]? = some x,
   fun i H v H' => ∃ p x, v = .ref p ∧ H p = none ∧ H' = upd H p (.tup [.int (i : Int), x]) ∧ ∀ xs, c.at K H xs → xs[i]? = some x,
   fun i H => ∃ xs, c.at K H xs ∧ xs.length ≤ i⟩
theorem turn_enum {P : Program} {w : World} {K : PySem.W.Frag} {elts : List Expr} {k : Nat} {pos : Pos} {c : Cp} {e it : Addr} (hei : e ≠ it) :
    Turn P w K (.Tuple elts k pos) (Ite K c) [e, it] e (fun i h => (∃ old, IsEnum h e it i old) ∧ c.itr h it i) where
  mem := by simp
  obj := fun i h Z b hb => by
    obtain ⟨⟨old, he⟩, hi⟩ := Z
    obtain ⟨o, _, vs, ho, _, d, _⟩ := Cp.itr_obj hi
    simp only [List.mem_cons, List.not_mem_nil, or_false] at hb
    rcases hb with rfl | rfl
    · exact ⟨_, he, fun v q => by cases q⟩
    · exact ⟨_, ho, fun v q => by rw [d] at q; cases q⟩
  keep := fun i h h' Z kp => by
    obtain ⟨⟨old, he⟩, hi⟩ := Z
    exact ⟨⟨old, kp e (by simp) _ he⟩, Cp.itr_at hi fun o q => kp it (by simp) o q⟩
  item := by
    intro X hP hw hK hc i pins s σ H E I hf Z hg
    subst hP hw hK
    obtain ⟨xs, x, hx, ex⟩ := hg
    obtain ⟨⟨old, he⟩, hi⟩ := id Z
    have sc := Cp.src_of I hx
    have offe : c.off e := Cp.off_of sc he rfl (by decide) (by decide)
    have hlt : i < xs.length := (List.getElem?_eq_some_iff.mp ex).1
    have hh : X.A.in1.handled = none := I.ok.hd hc
    refine wpAny_pyNext_enum_itemD (Cp.draws (c := c) (xs := xs) hh it) he ⟨hi, sc⟩ hlt hei (fun z => ?_) fun u h' tk hP ho st' hT hsz kk => ⟨_, rfl, ?_⟩
    · rcases List.mem_cons.mp z with q | q
      · exact hei q
      · exact Cp.off_adr offe q
    · obtain ⟨x', ex', ru⟩ := hP
      rw [ex] at ex'
      cases ex'
      refine wpAny_letOwnedTupleGo_enum ho fun h'' he'' sb => ?_
      have hne : s.heap.objs.size ≠ e := Nat.ne_of_gt (Heap.lt_size he)
      have k2 : ∀ b o, b ∉ [e, it] → s.heap.get? b = some o → h''.get? b = some o := fun b o hb q => by
        simp only [List.mem_cons, List.not_mem_nil, or_false, not_or] at hb
        exact sb.extBut _ _ hb.1 (kk b o hb.1 hb.2 q)
      have I1 : Inv X pins σ H { s with heap := h'', toks := tk + 1 } := I.moved k2 hf
      have hn : H s.heap.objs.size = none := I.fresh
      have fok : FpOk X pins H s.heap.objs.size := I.fpOk (Nat.le_refl _) hn
      have hp2 : h''.get? s.heap.objs.size = some { cls := .type "tuple", data := .seq #[.int i tk, u] } := sb.extBut _ _ hne hT
      have I2 : Inv X pins σ (upd H s.heap.objs.size (.tup [.int (i : Int), x])) { s with heap := h'', toks := tk + 1 } :=
        I1.track fok ⟨by show 2 ≤ sizeLine; decide, [.int i tk, u], .cons ⟨_, rfl⟩ (.cons ru .nil), ⟨_, hp2, rfl, _, rfl⟩⟩
      refine ⟨.ref s.heap.objs.size, _, I2, rfl, ⟨_, x, rfl, hn, rfl, fun xs' hx' => ?_⟩, ⟨⟨_, he''⟩, Cp.itr_at st'.1 fun o q => sb.extBut _ _ (Ne.symm hei) q⟩, fun b hb => ?_⟩
      · rw [Cp.at_inj I hx' hx]; exact ex
      · obtain ⟨o, _, vs, hoi, _⟩ := Cp.itr_obj hi
        have lt : b < s.heap.objs.size := by
          have hb' := hb
          simp only [List.mem_cons, List.not_mem_nil, or_false] at hb'
          rcases hb' with rfl | rfl
          · exact Heap.lt_size he
          · exact Heap.lt_size hoi
        rw [upd_ne (Nat.ne_of_lt lt)]
        exact (hf b hb).1
  done := by
    intro X hP hw hK hc i pins s σ H E I hf Z hg
    subst hP hw hK
    obtain ⟨xs, hx, hle⟩ := hg
    obtain ⟨⟨old, he⟩, hi⟩ := Z
    have hh : X.A.in1.handled = none := I.ok.hd hc
    have hT : s.TypeIs (.ref e) "enumerate" := ⟨_, he, rfl⟩
    unfold pyNext
    refine wpAny_bind (wpAny_attempt (wpAny_callSpecial?_slot (name := Str.ofString "__next__") hT F.slot_enumerate_next
      (wpAny_call_entry F.slot_enumerate_next hT F.entry_enumerate_next ?_ (F.args_enumerate_next_1 _))))
    show wpAny _ _ (field (.ref e) 2 >>= _) _ _ _
    refine wpAny_bind (wpAny_field he rfl (x := .ref it) rfl ?_)
    refine wpAny_bind (Cp.fin hh hi (Cp.src_of I hx) (List.getElem?_eq_none hle) fun h' y eb hy => ?_)
    obtain ⟨o, ho, hcl⟩ := hy
    refine wpAny_bind (wpAny_isInstance (T := "StopIteration") (b := true) ⟨o, ho, hcl⟩ isSubtype_stop ?_)
    refine wpAny_pure ⟨rfl, I.moved (t' := s.toks) (ch := [e, it]) (fun b o hb q => eb b o ?_ q) hf⟩
    simp only [List.mem_cons, List.not_mem_nil, or_false, not_or] at hb
    exact hb.2
  self := fun _ _ _ _ _ Z h => by
    obtain ⟨⟨old, he⟩, _⟩ := Z
    exact wpAny_pyIter_enum he h
section
variable {prog : Program} {w : World} {A : Around} {E : Value → Shared → Prop} {s : Shared}
set_option maxHeartbeats 1000000 in
theorem meets_enum_tup (l : Addr) (items : Array Value) (n : Nat) (dct : Option Addr) (sl : Array (Option Value)) :
    Meets (Builtin.«enumerate.__new__» ⟨[.type "enumerate", .ref l], []⟩) (fun _ R s => s.heap.get? l = some { cls := .type "tuple", dict := dct, data := .seq items n, slots := sl } ∧
      R (.ok (.ret (.ref (s.heap.push { cls := .type "tuple_iterator", data := .fields #[.ref l, .int 0 0] }).objs.size)))
        { s with heap := (s.heap.push { cls := .type "tuple_iterator", data := .fields #[.ref l, .int 0 0] }).push { cls := .type "enumerate", data := .fields #[.none, .bool false, .ref s.heap.objs.size, rawInt 0, .none, .none] } }) :=
  .of_wp fun prog w A R s h => by
    obtain ⟨hp, g, d, tk, os⟩ := s; obtain ⟨hl, h⟩ := h
    have hsub := sub_enumerate
    have hL : Heap.IsTuple (Shared.heap ⟨hp, g, d, tk, os⟩) l items := ⟨_, hl, rfl, n, rfl⟩
    wp_walk using AutoSeq1.wpAny_loadPart' hl
    refine wpAny_stack_any fun st => wpAny_pure ?_
    split
    · rename_i c _ _ _ _ _
      cases (c == Value.type "enumerate")
      · wp_walk using AutoSeq1.wpAny_loadPart' hl, wpAny_pyIter_tuple hL
        exact ⟨_, rfl, h⟩
      · wp_walk using AutoSeq1.wpAny_loadPart' hl, wpAny_pyIter_tuple hL
        exact ⟨_, rfl, h⟩
    · wp_walk using AutoSeq1.wpAny_loadPart' hl, wpAny_pyIter_tuple hL
      exact ⟨_, rfl, h⟩
theorem call_enum_tup {l : Addr} {items : Array Value} {Q : Value → Shared → Prop} (hL : s.heap.IsTuple l items)
    (h : ∀ h', IsEnum h' (s.heap.objs.size + 1) s.heap.objs.size 0 .none → h'.IsTupleIter s.heap.objs.size l 0 →
      (∀ b o, s.heap.get? b = some o → h'.get? b = some o) → Q (.ref (s.heap.objs.size + 1)) { s with heap := h' }) :
    wpAny (model prog w) A (call (.type "enumerate") [.ref l]) Q E s := by
  obtain ⟨⟨c, dct, dt, sl⟩, hl, hc, n, hd⟩ := hL
  replace hc : c = .type "tuple" := hc
  replace hd : dt = .seq items n := hd
  subst hc hd
  refine callType_new F.called_enumerate (by decide) (F.typeCall_enumerate_1 _) (F.newCall_enumerate_1 _) (fun obj => F.args_object_init_2 obj _) F.entry_enumerate_new
    (meets_enum_tup l items n dct sl) ⟨hl, ?_⟩
  have hz : (s.heap.push { cls := .type "tuple_iterator", data := .fields #[.ref l, .int 0 0] }).objs.size = s.heap.objs.size + 1 := Heap.size_push ..
  show _ ∧ _
  rw [hz]
  have he : IsEnum ((s.heap.push { cls := .type "tuple_iterator", data := .fields #[.ref l, .int 0 0] }).push
      { cls := .type "enumerate", data := .fields #[.none, .bool false, .ref s.heap.objs.size, rawInt 0, .none, .none] }) (s.heap.objs.size + 1) s.heap.objs.size 0 .none := by
    have := Heap.get?_push_size (s.heap.push { cls := .type "tuple_iterator", data := .fields #[.ref l, .int 0 0] })
      (o := { cls := .type "enumerate", data := .fields #[.none, .bool false, .ref s.heap.objs.size, rawInt 0, .none, .none] }) rfl
    rw [hz] at this; exact this
  exact ⟨⟨_, he, rfl⟩, h _ he ⟨_, Heap.get?_push_of_some _ (Heap.get?_push_size _ rfl), rfl, rfl⟩ fun b o x => Heap.get?_push_of_some _ (Heap.get?_push_of_some _ x)⟩
theorem call_enumC {c : Cp} {xs : List V} {t : Tok} {Q : Value → Shared → Prop} (sc : c.src s.heap xs)
    (h : ∀ h', IsEnum h' (s.heap.objs.size + 1) s.heap.objs.size 0 .none → c.itr h' s.heap.objs.size 0 → (∀ b o, s.heap.get? b = some o → h'.get? b = some o) → Q (.ref (s.heap.objs.size + 1)) { s with heap := h' }) :
    wpAny (model prog w) A (call (.type "enumerate") [c.value t]) Q E s := by
  cases c with
  | lst a => obtain ⟨its, _, p⟩ := sc; exact call_enumerate_list p fun h' a b _ k => h h' a b k
  | tup a => obtain ⟨its, _, p⟩ := sc; exact call_enum_tup p fun h' a b k => h h' a b k
  | txt x => exact call_enumerate_str fun h' a b _ k => h h' a ⟨t, b⟩ k
end
section
variable {X : Cx}
def iEnum (K : PySem.W.Frag) (ta : TA) : TI := fun σ H R => ta σ H fun vs H1 => ∃ c xs, vs = [c.val] ∧ c.at K H1 xs ∧ R (Ite K c) H1
theorem pi_enum {a : Expr} {ta : TA} {p pos : Pos} {elts : List Expr} {k : Nat} {tpos : Pos} (hg : Gl X "enumerate") (hm : X.mg "enumerate" = none) (ha : PA X [a] ta)
    (hs : starEach [a] X.env = [(false, eval a X.env)] := by rfl) : PI X (.Tuple elts k tpos) (.Call (.Name "enumerate" p) [a] [] pos) (iEnum X.K ta) := by
  intro pins s σ H R I h
  refine Call_ (ld_blt I hg hm boot_enumerate (PyProof.Rows.callWith_type1 (thn (ha pos pins s σ H _ I h) fun us s1 ⟨vs, H1, I1, r1, q1⟩ => ?_) hs rfl))
  obtain ⟨c, xs, e, hx, q⟩ := q1
  subst e
  obtain ⟨u, rfl, ru⟩ := vals1 r1
  obtain ⟨t, rfl⟩ := Cp.value_of ru
  have sc := Cp.src_of I1 hx
  refine call_enumC sc fun h' he hi kk => wpAny_pyIter_enum he ?_
  have hei : s1.heap.objs.size + 1 ≠ s1.heap.objs.size := Nat.ne_of_gt (Nat.lt_succ_self _)
  refine ⟨_, [s1.heap.objs.size + 1, s1.heap.objs.size], _, _, H1, rfl, I1.kept (t' := s1.toks) kk, turn_enum hei, ⟨⟨_, he⟩, hi⟩, fun b hb => ?_, q⟩
  have le : s1.heap.objs.size ≤ b := by
    simp only [List.mem_cons, List.not_mem_nil, or_false] at hb
    rcases hb with rfl | rfl
    · exact Nat.le_add_right _ _
    · exact Nat.le_refl _
  exact I1.fpOk le (I1.hok.fresh le)
theorem for_enum {K : PySem.W.Frag} {c : Cp} {xs : List V} {g : TG} {tb : TS} {D : Ends} {σ : St} {H : Hp} (Pv : Nat → St → Hp → Prop) (h0 : Pv 0 σ H) (hl : ∀ i σ H, i ≤ xs.length → Pv i σ H → c.at K H xs)
    (hs : ∀ (i : Nat) x p σ H, xs[i]? = some x → H p = none → Pv i σ H → g (.ref p) σ (upd H p (.tup [.int (i : Int), x])) fun σ2 H2 => tb { D with nx := Pv (i + 1), ct := Pv (i + 1), bk := D.nx } σ2 H2)
    (hd : ∀ σ H, Pv xs.length σ H → D.nx σ H) :
    ∃ W : Nat → Nat → St → Hp → Prop, (∃ m, W 0 m σ H) ∧ ∀ i m σ H, W i m σ H →
      ((Ite K c).stop i H ∧ D.nx σ H) ∨ ((Ite K c).go i H ∧ ∃ N : St → Hp → Prop, (∀ σ' H', N σ' H' → ∃ m', m' < m ∧ W (i + 1) m' σ' H') ∧ ∀ y H', (Ite K c).yld i H y H' → g y σ H' fun σ2 H2 => tb { D with nx := N, ct := N, bk := D.nx } σ2 H2) := by
  refine ⟨fun i m σ H => m = xs.length - i ∧ i ≤ xs.length ∧ Pv i σ H, ⟨xs.length, by simp, Nat.zero_le _, h0⟩, ?_⟩
  rintro i m σ H ⟨rfl, hi, p⟩
  have zx := hl i σ H hi p
  by_cases hlt : i < xs.length
  · refine .inr ⟨⟨xs, xs[i], zx, by simp [hlt]⟩, Pv (i + 1), fun σ' H' p' => ⟨xs.length - (i + 1), by omega, rfl, hlt, p'⟩, fun v H' q => ?_⟩
    obtain ⟨a, x, rfl, ha, rfl, e⟩ := q
    exact hs i x a σ H (e xs zx) ha p
  · have e : i = xs.length := by omega
    subst e
    exact .inl ⟨⟨xs, zx, Nat.le_refl _⟩, hd σ H p⟩
end
end L2

namespace L2
open PySem PySem.Spec PyProof.Rows
set_option maxRecDepth 100000
/-! ### set(text), its length -/
def met (val : Nat → Str) (i : Nat) : List Str := ((List.range i).map val).foldl step_dedup []
theorem met_zero (val : Nat → Str) : met val 0 = [] := rfl
theorem met_succ (val : Nat → Str) (i : Nat) : met val (i + 1) = step_dedup (met val i) (val i) := by
  unfold met; rw [List.range_succ, List.map_append, List.foldl_append]; rfl
theorem met_length_le (val : Nat → Str) : ∀ i, (met val i).length ≤ i
  | 0 => by rw [met_zero]; exact Nat.le_refl _
  | i + 1 => by
    rw [met_succ]
    have ih := met_length_le val i
    unfold step_dedup
    split
    · omega
    · rw [List.length_append, List.length_singleton]; omega
theorem met_any_step (σ : List Str) (v k : Str) : (step_dedup σ v).any (· == k) = (σ.any (· == k) || decide (k = v)) := by
  unfold step_dedup
  by_cases h : σ.any (· == v) = true
  · rw [if_pos h]
    by_cases e : k = v
    · subst e; rw [h]; simp
    · simp [e]
  · rw [if_neg h, List.any_append]
    by_cases e : k = v
    · subst e; simp
    · have hb : (v == k) = false := by simpa [beq_iff_eq] using (fun h' : v = k => e h'.symm)
      simp [hb, e]
theorem met_length_step (σ : List Str) (v : Str) : (step_dedup σ v).length = if σ.any (· == v) then σ.length else σ.length + 1 := by
  unfold step_dedup; split <;> simp
section
variable {prog : Program} {w : World} {A : Around} {R : Result → Shared → Prop} {I : Addr} {fp wr : List Addr} {G : Array GenState → Array GenState → Prop} {n : Nat} {P : Nat → Value → Prop} {St : Nat → Shared → Prop}
theorem set_loop_txt (W : WalksS prog w A.in1 I fp wr G n P St) (S : Addr) (hSf : S ∉ fp) (val : Nat → Str) (hval : ∀ i v, P i v → ∃ t, v = .str (val i) t) (hb : n + 1 < scanBound) :
    ∀ (k i : Nat) (s : Shared), n - i = k → i ≤ n → St i s → s.heap.SetOf (strKind prog w) S (fun k' => (met val i).any (· == k')) (met val i).length →
      (∀ s', Moved (S :: wr) G s s' → s'.heap.SetOf (strKind prog w) S (fun k' => (met val n).any (· == k')) (met val n).length → R (.ok (.ret .none)) s') →
      codeAny (model prog w) A (.builtin "set.update.loop" ⟨[.ref S, .ref I], []⟩) R s := by
  have hSw : S ∉ wr := fun h => hSf (W.sub _ h)
  have hsub : ∀ b ∈ wr, b ∈ S :: wr := fun b hb => List.mem_cons_of_mem _ hb
  intro k
  induction k with
  | zero =>
    intro i s hk hi hst hS hR
    have hin : i = n := by omega
    subst hin
    refine codeAny_builtin PyProof.Rows.F.entry_set_update_loop ?_
    rw [Around.under_plainId PyProof.Rows.F.plain_set_update_loop _]
    show wpAny _ A.in1 (pyNext (.ref I) >>= _) _ _ s
    refine wpAny_bind (W.done s _ _ hst fun s' hm => ?_)
    show wpAny _ A.in1 (ret Value.none) _ _ s'
    exact wpAny_pure (hR s' (hm.mono hsub) (by
      obtain ⟨o, es, ep, t, ho, rest⟩ := hS
      exact ⟨o, es, ep, t, hm.heap S _ hSw ho, rest⟩))
  | succ k ih =>
    intro i s hk hi hst hS hR
    have hlt : i < n := by omega
    refine codeAny_builtin PyProof.Rows.F.entry_set_update_loop ?_
    rw [Around.under_plainId PyProof.Rows.F.plain_set_update_loop _]
    show wpAny _ A.in1 (pyNext (.ref I) >>= _) _ _ s
    refine wpAny_bind (W.item i s _ _ hlt hst fun v s' hP hst' hm => ?_)
    obtain ⟨t, rfl⟩ := hval i v hP
    have hS' : s'.heap.SetOf (strKind prog w) S (fun k' => (met val i).any (· == k')) (met val i).length := by
      obtain ⟨o, es, ep, tb, ho, rest⟩ := hS
      exact ⟨o, es, ep, tb, hm.heap S _ hSw ho, rest⟩
    show wpAny _ A.in1 (holding [Value.str (val i) t] (setAdd S (.str (val i) t)) >>= _) _ _ s'
    refine wpAny_bind (wpAny_holding ?_)
    unfold setAdd
    refine wpAny_holding ?_
    refine wpAny_bind ((strKind prog w).pyHash (k := val i) (strKind_is _ _ _ _) ?_)
    have hroom : (met val i).length + 1 < scanBound := by have := met_length_le val i; omega
    refine wpAny_setAddHashed_of (knd := strKind prog w) (s := { s' with toks := s'.toks + 1 }) (strKind_is _ _ _ _) rfl hS' hroom fun h' hsb hS2 => ?_
    have hSi : h'.SetOf (strKind prog w) S (fun k' => (met val (i + 1)).any (· == k')) (met val (i + 1)).length :=
      SetOf_congr hS2 (fun k' => by rw [met_succ, met_any_step]) (by rw [met_succ, met_length_step])
    refine wpAny_pure ⟨plainId_quiet PyProof.Rows.F.plain_set_update_loop _, ih (i + 1) _ (by omega) hlt (W.frame _ s' _ _ hst' (Nat.le_succ _) fun b hb o e => ?_) hSi fun s'' hm'' hS'' => ?_⟩
    · rw [hsb.2 b (fun h : b = S => hSf (by rw [← h]; exact hb))]; exact e
    · refine hR s'' (Moved.trans W.gtrans ((hm.mono hsub).then_heap (Nat.le_succ _) fun b o hb e => ?_) hm'') hS''
      rw [hsb.2 b (fun h : b = S => hb (by rw [h]; exact List.mem_cons_self))]; exact e
end
def signAtS (x : Str) (i : Nat) : Str := ⟨#[x.cps.getD i 0]⟩
theorem walks_txt {prog : Program} {w : World} {A : Around} (hh : A.handled = none) (I : Addr) (x : Str) (t : Tok) :
    Walks prog w A I [I] [I] x.cps.size (fun i v => ∃ u, v = .str (signAtS x i) u) (fun i h => h.IsStrIter I (strIterType x) x t i) where
  sub := fun _ hb => hb
  frame := fun _ _ _ st hk => let ⟨o, ho, r⟩ := st; ⟨o, hk I (by simp) o ho, r⟩
  item := fun i s Q E hi st hQ => by
    refine pyNext_txt_item st (k := x.cps.getD i 0) (by simp [hi]) fun h' hit' hs' => ?_
    exact hQ _ h' (s.toks + 1) ⟨_, rfl⟩ hit' fun b o hb e => hs'.extBut b o (fun h => hb (by simp [h])) e
  done := fun s Q E st hQ => pyNext_txt_end hh st (by simp) fun h' he' => hQ h' s.toks fun b o hb e => he' b o (fun h => hb (by simp [h])) e
  self := fun _ _ _ _ st hQ => pyIter_txtiter st hQ
theorem sub_str_setG : isSubtype (.type "str") (.type "set") = pure false := by rw [isSubtype_type]; kernel_rfl
theorem sub_str_frozensetG : isSubtype (.type "str") (.type "frozenset") = pure false := by rw [isSubtype_type]; kernel_rfl
section
variable {prog : Program} {w : World} {A : Around} {E : Value → Shared → Prop} {s : Shared}
set_option maxHeartbeats 3200000 in
theorem call_set_txt {x : Str} {t : Tok} {Q : Value → Shared → Prop} (hh : A.handled = none) (hb : x.cps.size + 1 < scanBound)
    (h : ∀ (h' : Heap) (tk : Nat), h'.SetOf (strKind prog w) s.heap.objs.size (fun k' => (met (signAtS x) x.cps.size).any (· == k')) (met (signAtS x) x.cps.size).length →
      (∀ b o, b < s.heap.objs.size → s.heap.get? b = some o → h'.get? b = some o) → Q (.ref s.heap.objs.size) { s with heap := h', toks := tk }) :
    wpAny (model prog w) A (call (.type "set") [.str x t]) Q E s := by
  obtain ⟨c, tl, hmro⟩ := F.called_set.mro
  have hmade := F.called_set.made
  have hsub := F.called_set.sub
  refine wpAny_call (codeAny_of_tree ?_)
  show wpAny _ _ (callAny (.type "set") _) _ _ _
  refine wpAny_pure ⟨Code.quiet_builtin _ (by decide +kernel), codeAny_builtin F.entry_type_call ?_⟩
  rw [Around.under_plain (weight_type_call_type "set" [.str x t] []) rfl]
  have h1 := F.called_set.notType
  have h2 := F.called_set.canCreate
  have hct := F.typeCall_set_1 (.str x t)
  repeat (any_goals (first | assumption | wp_step))
  refine codeAny_mono (code_set_new_1 (.str x t) (E := E) (Q₁ := fun obj s₁ => ∃ led : Bool, obj = .ref s.heap.objs.size ∧ s₁ = { s with heap := s.heap.push { cls := .type "set", dict := none, data := .set #[] 0 (.fresh 0 0 led) } }) fun led => ⟨led, rfl, rfl⟩) fun r s₁ hr => ?_
  cases r with
  | error e => exact hr
  | ok fl =>
    cases fl with
    | ret obj =>
      obtain ⟨led, rfl, rfl⟩ := hr
      have hS : (s.heap.push { cls := .type "set", dict := none, data := .set #[] 0 (.fresh 0 0 led) }).get? s.heap.objs.size = some { cls := .type "set", dict := none, data := .set #[] 0 (.fresh 0 0 led) } := Heap.get?_push_size _ rfl
      have hT : Shared.TypeIs { s with heap := s.heap.push { cls := .type "set", dict := none, data := .set #[] 0 (.fresh 0 0 led) } } (.ref s.heap.objs.size) "set" := ⟨_, hS, rfl⟩
      have hli := F.called_set.init.lookup
      have hbi := F.called_set.init.bind (.ref s.heap.objs.size)
      repeat (any_goals (first | assumption | wp_step))
      refine codeAny_mono (codeAny_call_builtin (R := wants (fun r s₂ => r = .none ∧ ∃ h' tk, s₂ = { s with heap := h', toks := tk } ∧
          h'.SetOf (strKind prog w) s.heap.objs.size (fun k' => (met (signAtS x) x.cps.size).any (· == k')) (met (signAtS x) x.cps.size).length ∧
          (∀ b o, b < s.heap.objs.size → s.heap.get? b = some o → h'.get? b = some o)) E) F.called_set.init.plain F.entry_set_init (check_set_init_1 hT ?_)) fun r₂ s₂ hr₂ => ?_
      · have hsls := sub_str_setG
        have hslf := sub_str_frozensetG
        have hne : (Value.type "str" == Value.type "dict") = false := by decide
        unfold Builtin.«set.__init__» noKeywords Builtin.Frozenset.updateFrom
        generalize hPI : pyIter = PI
        wp_walk
        subst hPI
        refine wpAny_pyIter_strU ?_
        refine wpAny_bind (wpAny_runValue ?_)
        have hh3 : A.in1.in1.in1.handled = none := by simp [hh]
        have hSf : s.heap.objs.size ∉ [(s.heap.push { cls := .type "set", dict := none, data := .set #[] 0 (.fresh 0 0 led) }).objs.size] := by
          rw [Heap.size_push]; simp only [List.mem_singleton]
          exact Nat.ne_of_lt (Nat.lt_succ_self _)
        refine set_loop_txt ((walks_txt hh3 _ x t).toS) s.heap.objs.size hSf (signAtS x) (fun i v hv => hv) hb (x.cps.size - 0) 0 _ (by omega) (Nat.zero_le _)
          ⟨_, Heap.get?_push_size _ rfl, rfl, rfl⟩ ?hS0 ?hR
        case hS0 =>
          have hget : ((s.heap.push { cls := .type "set", dict := none, data := .set #[] 0 (.fresh 0 0 led) }).push { cls := .type (strIterType x), data := .fields #[.str x t, .int 0 0] }).get? s.heap.objs.size
              = some { cls := .type "set", dict := none, data := .set #[] 0 (.fresh 0 0 led) } := Heap.get?_push_of_some _ hS
          exact SetOf_congr ((setObjOf_fresh (knd := strKind prog w) led).setOf hget (by unfold scanBound; omega)) (fun _ => rfl) rfl
        case hR =>
          intro s' hm hS'
          obtain ⟨h', g', d', tk', os'⟩ := s'
          have eg : g' = s.gens := hm.gens
          have ed : d' = s.drawn := hm.drawn
          have eo : os' = s.os := hm.os
          subst eg; subst ed; subst eo
          show wpAny _ _ _ _ _ _
          refine wpAny_pure ?_
          show wpAny _ _ (ret Value.none) _ _ _
          refine wpAny_pure ⟨rfl, h', tk', rfl, hS', fun b o hb e => ?_⟩
          have hb1 : b ≠ s.heap.objs.size := Nat.ne_of_lt hb
          have hb2 : b ≠ (s.heap.push { cls := .type "set", dict := none, data := .set #[] 0 (.fresh 0 0 led) }).objs.size := by
            rw [Heap.size_push]; exact Nat.ne_of_lt (Nat.lt_succ_of_lt hb)
          exact hm.heap b o (by simp only [List.mem_cons, List.mem_singleton, List.not_mem_nil, or_false, not_or]; exact ⟨hb1, hb2⟩) (Heap.get?_push_of_some _ (Heap.get?_push_of_some _ e))
      · cases r₂ with
        | error e => exact hr₂
        | ok fl₂ =>
          cases fl₂ with
          | ret r =>
            obtain ⟨rfl, h', tk, rfl, hS', hk'⟩ := hr₂
            repeat (any_goals (first | assumption | wp_step))
            exact h _ _ hS' hk'
          | _ => exact hr₂.elim
    | _ => exact hr.elim
end
end L2

namespace L2
open PySem PySem.Spec PyProof.Rows
/-! ### a set of texts that is only counted -/
def setO (P : Program) (w : World) (a : Addr) (n : Nat) : HO := .ext fun h => ∃ S, h.SetOf (strKind P w) a S n
section
variable {X : Cx}
theorem call_setT (hc : X.calm = true) : CallR X (.type "set") (fun xs H Q => ∃ x, xs = [.str x] ∧ x.cps.size + 1 < scanBound ∧ ∀ p, H p = none → Q (.ref p) (upd H p (setO X.prog X.w p (met (signAtS x) x.cps.size).length))) := by
  intro pins s σ H xs us Q I r h
  obtain ⟨x, rfl, hb, q⟩ := h
  obtain ⟨u, rfl, t, rfl⟩ := vals1 r
  refine call_set_txt (I.ok.hd hc) hb fun h' tk hS kk => ?_
  have hn : H s.heap.objs.size = none := I.fresh
  have k : ∀ b o, s.heap.get? b = some o → h'.get? b = some o := fun b o e => kk b o (Heap.lt_size e) e
  refine ⟨.ref s.heap.objs.size, _, I.laid (t' := tk) k (Nat.le_refl _) ?_, rfl, q _ hn⟩
  refine ⟨⟨_, hS⟩, ?_, fun h1 h2 p e => ?_⟩
  · obtain ⟨o, _, _, _, ho, _⟩ := hS
    exact ⟨o, ho⟩
  · obtain ⟨S, o, es, ep, t, ho, rest⟩ := p
    exact ⟨S, o, es, ep, t, e o ho, rest⟩
theorem call_len_setT : CallR X (.builtin "len") (fun xs H Q => ∃ p n, xs = [.ref p] ∧ H p = some (setO X.prog X.w p n) ∧ Q (.int (n : Nat)) H) := by
  intro pins s σ H xs us Q I r h
  obtain ⟨p, n, rfl, hp, q⟩ := h
  obtain ⟨u, rfl, ru⟩ := vals1 r
  cases ru
  obtain ⟨⟨S, o, es, ep, t, ho, hex, hd, _, _, hz, hf, hn⟩, _⟩ := I.hok p _ hp
  subst hn
  have : es.size < 4096 := hz
  exact call_len_set ho hex hd hf (by omega) ⟨.int es.size, H, I.tok _, ⟨_, rfl⟩, q⟩
end
end L2

namespace L2
open PySem PySem.Spec PyProof.Rows
theorem signs_length (x : Str) : (signsV x).length = x.cps.size := by simp [signsV]
section
variable {X : Cx} {tg : Expr}
end
end L2

namespace GwM
end GwM

namespace GP
open PySem L2 GwM
theorem Same.upd {H : Hp} {q : Addr} {o : HO} (h : H q = none) : Same H (L2.upd H q o) := fun b u e => by rw [upd_ne (ne_of_none e h)]; exact e
theorem Same.at {H H2 : Hp} {t : Addr} {o : HO} (e : Same H H2) (h : H t = none) : Same H (L2.upd H2 t o) := fun b u q => by rw [upd_ne (ne_of_none q h)]; exact e b u q
theorem Paired.at {α β : Type} {F : α → β → Prop} : ∀ {l₁ : List α} {l₂ : List β} {i : Nat} {x : α}, Paired F l₁ l₂ → l₁[i]? = some x → ∃ y, l₂[i]? = some y ∧ F x y
  | _, _, i, _, .nil, e => by simp at e
  | _, _, 0, _, .cons r _, e => by simp at e; subst e; exact ⟨_, rfl, r⟩
  | _, _, i + 1, x, .cons _ t, e => by
    obtain ⟨y, h1, h2⟩ := Paired.at (i := i) (x := x) t (by simpa using e)
    exact ⟨y, by simpa using h1, h2⟩
theorem Paired.len {α β : Type} {F : α → β → Prop} {l₁ : List α} {l₂ : List β} (h : Paired F l₁ l₂) : l₁.length = l₂.length := Paired.length h
theorem Paired.snoc {α β : Type} {F : α → β → Prop} {x : α} {y : β} : ∀ {l₁ : List α} {l₂ : List β}, Paired F l₁ l₂ → F x y → Paired F (l₁ ++ [x]) (l₂ ++ [y])
  | _, _, .nil, h => .cons h .nil
  | _, _, .cons r t, h => .cons r (Paired.snoc t h)
/-! ### tests -/
theorem ite_ne {i j : Int} {A B : Prop} (h1 : i ≠ j → A) (h2 : i = j → B) : if (!decide (V.int i = V.int j)) = true then A else B := by
  by_cases h : i = j
  · rw [dec_int, if_neg (by simp [h])]; exact h2 h
  · rw [dec_int, if_pos (by simp [h])]; exact h1 h
theorem ite_eq {i j : Int} {A B : Prop} (h1 : i = j → A) (h2 : i ≠ j → B) : if (decide (V.int i = V.int j)) = true then A else B := by
  by_cases h : i = j
  · rw [dec_int, if_pos (by simp [h])]; exact h1 h
  · rw [dec_int, if_neg (by simp [h])]; exact h2 h
theorem ite_dec {p : Prop} [Decidable p] {A B : Prop} (h1 : p → A) (h2 : ¬ p → B) : if (decide p) = true then A else B := by
  by_cases h : p
  · rw [if_pos (decide_eq_true h)]; exact h1 h
  · rw [if_neg (by rw [decide_eq_false h]; exact Bool.false_ne_true)]; exact h2 h
theorem iteNF {A B : Prop} (h : A) : if (!false) = true then A else B := by
  rw [if_pos (show (!false) = true from rfl)]; exact h
theorem iteNT {A B : Prop} (h : B) : if (!true) = true then A else B := by
  rw [if_neg (by decide)]; exact h
/-! ### names -/
structure Dn (K : PySem.W.Frag) (mg : Str → Option Value) (x : Str) (st : Stmt) (ps : List Str) (f : Addr) (fd : FuncData) : Prop where
  fn : Fun K x x st f fd
  b : Binds K fd ps []
  m : mg x = some (.ref f)
end GP

namespace GP
open PySem L2 GwM
/-! ### methods, data that stays -/
structure Dm (K : PySem.W.Frag) (x qual : Str) (st : Stmt) (ps : List Str) (f : Addr) (fd : FuncData) : Prop where
  fn : Fun K x qual st f fd
  b : Binds K fd ps []
/-! ### signs -/
def isSignN (n : Nat) : Bool := (decide ((32 : Int) ≤ (n : Int)) && decide ((n : Int) ≤ 126)) && !inV (.int n) [.int 34, .int 37, .int 45]
def Signs (x : Str) : Prop := 0 < x.cps.size ∧ x.cps.size ≤ 100 ∧ (∀ c ∈ x.cps.toList, isSignN c = true) ∧ x.cps.toList.Nodup
theorem signs_at_ne {x : Str} (h : x.cps.toList.Nodup) {i j a b : Nat} (hi : x.cps[i]? = some a) (hj : x.cps[j]? = some b) (hij : i ≠ j) : a ≠ b := by
  intro z
  subst z
  rw [← Array.getElem?_toList] at hi hj
  exact hij ((List.getElem?_inj (List.getElem?_eq_some_iff.mp hi).1 h).mp (hi.trans hj.symm))
theorem met_any (val : Nat → Str) (k : Str) : ∀ i, (met val i).any (· == k) = true → ∃ j, j < i ∧ val j = k
  | 0, h => by rw [met_zero] at h; cases h
  | i + 1, h => by
    rw [met_succ, met_any_step, Bool.or_eq_true] at h
    rcases h with h | h
    · obtain ⟨j, h1, h2⟩ := met_any val k i h
      exact ⟨j, by omega, h2⟩
    · exact ⟨i, by omega, (of_decide_eq_true h).symm⟩
theorem met_full {val : Nat → Str} {n : Nat} (h : ∀ i j, i < n → j < n → i ≠ j → val i ≠ val j) : ∀ i, i ≤ n → (met val i).length = i
  | 0, _ => by rw [met_zero]; rfl
  | i + 1, hi => by
    rw [met_succ, met_length_step]
    have e : ¬ ((met val i).any (· == val i) = true) := fun z => by
      obtain ⟨j, h1, h2⟩ := met_any val _ i z
      exact h j i (by omega) (by omega) (by omega) h2
    rw [if_neg e, met_full h i (by omega)]
theorem met_signs {x : Str} (h : x.cps.toList.Nodup) : (met (signAtS x) x.cps.size).length = x.cps.size := by
  refine met_full (n := x.cps.size) (fun i j hi hj hij z => ?_) _ (Nat.le_refl _)
  unfold signAtS at z
  have e1 : x.cps[i]? = some (x.cps.getD i 0) := by simp [hi]
  have e2 : x.cps[j]? = some (x.cps.getD j 0) := by simp [hj]
  refine signs_at_ne h e1 e2 hij ?_
  have z2 : #[x.cps.getD i 0] = #[x.cps.getD j 0] := congrArg Str.cps z
  simpa using z2
/-! ### what a def of prices promises -/
def spIsSign : Sp := fun vs H Q _ => ∃ c : Nat, vs = [.str ⟨#[c]⟩] ∧ Q (.bl (isSignN c)) H
theorem putF_len {f : Str} {v : V} {fs : List (Str × V)} {n : Nat} (h : fs.length ≤ n) : (putF f v fs).length ≤ n + 1 := by
  have := length_putF f v fs
  omega
end GP

namespace GP
open PySem L2 GwM
end GP

namespace GP
open PySem L2 GwM
theorem pl1 {a : Str} {x : V} : (putF a x []).length < 1000 := Nat.lt_of_le_of_lt (putF_len (Nat.le_refl 0)) (by decide)
end GP

namespace GP
open PySem L2 GwM
end GP

namespace L2
open PySem PySem.Spec PyProof.Rows
end L2
namespace GP
open PySem L2 GwM
theorem kit_same {K : PySem.W.Frag} {t : Value} : PySem.W.kitOne K t t = some true := by unfold PySem.W.kitOne; rw [if_pos (by simp)]
theorem kit_int_bool {K : PySem.W.Frag} : PySem.W.kitOne K (.type "int") (.type "bool") = some false := by kernel_rfl
theorem kit_int_dict {K : PySem.W.Frag} : PySem.W.kitOne K (.type "int") (.type "dict") = some false := by kernel_rfl
theorem kit_int_list {K : PySem.W.Frag} : PySem.W.kitOne K (.type "int") (.type "list") = some false := by kernel_rfl
theorem kit_int_tuple {K : PySem.W.Frag} : PySem.W.kitOne K (.type "int") (.type "tuple") = some false := by kernel_rfl
theorem kit_int_str {K : PySem.W.Frag} : PySem.W.kitOne K (.type "int") (.type "str") = some false := by kernel_rfl
theorem kit_tuple_dict {K : PySem.W.Frag} : PySem.W.kitOne K (.type "tuple") (.type "dict") = some false := by kernel_rfl
theorem kit_tuple_list {K : PySem.W.Frag} : PySem.W.kitOne K (.type "tuple") (.type "list") = some false := by kernel_rfl
/-! ### the heap without the counter -/
def Wo (t : Addr) (H : Hp) : Hp := fun b => if b = t then none else H b
theorem Wo.sub {t : Addr} {H : Hp} : Same (Wo t H) H := fun b u h => by
  unfold Wo at h
  by_cases e : b = t
  · rw [if_pos e] at h; cases h
  · rw [if_neg e] at h; exact h
theorem Wo.ne {t : Addr} {H : Hp} {b : Addr} {u : HO} (h : Wo t H b = some u) : b ≠ t := fun e => by
  unfold Wo at h
  rw [if_pos e] at h; cases h
theorem Wo.in {t : Addr} {H : Hp} {b : Addr} {u : HO} (n : b ≠ t) (h : H b = some u) : Wo t H b = some u := by
  unfold Wo
  rw [if_neg n]; exact h
theorem Wo.set {t : Addr} {H : Hp} {o : HO} : Wo t (L2.upd H t o) = Wo t H := by
  funext b
  unfold Wo
  by_cases e : b = t
  · rw [if_pos e, if_pos e]
  · rw [if_neg e, if_neg e, upd_ne e]
theorem Wo.same {t : Addr} {H H' : Hp} (e : Same H H') : Same (Wo t H) (Wo t H') := fun b u h => Wo.in (Wo.ne h) (e b u (Wo.sub b u h))
theorem Wo.upd {t : Addr} {H : Hp} {o : HO} : Same (Wo t H) (L2.upd H t o) := fun b u h => by rw [upd_ne (Wo.ne h)]; exact Wo.sub b u h
/-! ### the script and the counter -/
structure Ctr (K : PySem.W.Frag) (H : Hp) (s t : Addr) (ns : List Int) (k : Int) : Prop where
  sq : SqL K (Wo t H) s (ns.map V.int)
  len : ns.length ≤ 63
  at_ : H t = some (.lst [.int k])
  k0 : 0 ≤ k
theorem Ctr.scr {K : PySem.W.Frag} {H : Hp} {s t : Addr} {ns : List Int} {k : Int} (c : Ctr K H s t ns k) : SqL K H s (ns.map V.int) := Same.seq Wo.sub c.sq
theorem Ctr.scr' {K : PySem.W.Frag} {H : Hp} {s t : Addr} {ns : List Int} {k : Int} (c : Ctr K H s t ns k) (o : HO) : SqL K (L2.upd H t o) s (ns.map V.int) := Same.seq Wo.upd c.sq
theorem Ctr.same {K : PySem.W.Frag} {H H' : Hp} {s t : Addr} {ns : List Int} {k : Int} (c : Ctr K H s t ns k) (e : Same H H') : Ctr K H' s t ns k := ⟨Same.seq (Wo.same e) c.sq, c.len, e _ _ c.at_, c.k0⟩
theorem Ctr.step {K : PySem.W.Frag} {H : Hp} {s t : Addr} {ns : List Int} {k k' : Int} (c : Ctr K H s t ns k) (h : 0 ≤ k') : Ctr K (L2.upd H t (.lst [.int k'])) s t ns k' := ⟨by rw [Wo.set]; exact c.sq, c.len, upd_same, h⟩
theorem Ctr.off {K : PySem.W.Frag} {H H' : Hp} {s t : Addr} {ns : List Int} {k k' : Int} (c : Ctr K H s t ns k) (e : Same (Wo t H) (Wo t H')) (h : H' t = some (.lst [.int k'])) (h0 : 0 ≤ k') : Ctr K H' s t ns k' := ⟨Same.seq e c.sq, c.len, h, h0⟩
/-! ### promises of the law's defs -/
def spNext (K : PySem.W.Frag) : Sp := fun vs H Q _ => ∃ (s t : Addr) (ns : List Int) (k : Int), vs = [.ref s, .ref t] ∧ Ctr K H s t ns k ∧ k ≤ 100000 ∧
  ∀ m : Int, 0 ≤ m → m < 1999999973 → Q (.int m) (L2.upd H t (.lst [.int (k + 1)]))
def spSigns (K : PySem.W.Frag) : Sp := fun vs H Q _ => ∃ (s t : Addr) (ns : List Int) (k n : Int), vs = [.ref s, .ref t, .int n] ∧ Ctr K H s t ns k ∧ k ≤ 100000 ∧ 1 ≤ n ∧ n ≤ 12 ∧
  ∀ sg, Signs sg → sg.cps.size ≤ 12 → Q (.str sg) (L2.upd H t (.lst [.int (k + 1)]))
end GP

namespace L2
open PySem PySem.Spec PyProof.Rows
end L2
namespace L2
open PySem PySem.Spec PyProof.Rows
end L2

namespace GP
open PySem L2 GwM
end GP

namespace GP
open PySem L2 GwM
section
variable {K : PySem.W.Frag} {C : Addr} {H0 H H' : Hp} {t l x o m : Addr} {rs : List Addr} {sg : Str} {rows : List (List Fra)} {fo fm : Fra} {k : Int}
end
end GP

namespace L2
open PySem PySem.Spec PyProof.Rows
section
variable {X : Cx}
end
end L2

namespace GP
open PySem L2 GwM
def Of (sg x : Str) : Prop := ∀ c ∈ x.cps.toList, c ∈ sg.cps.toList
theorem cps_lt {x : Str} {i c : Nat} (h : x.cps[i]? = some c) : i < x.cps.size := by
  rw [← Array.getElem?_toList] at h
  have := (List.getElem?_eq_some_iff.mp h).1
  simpa using this
theorem cps_mem {x : Str} {i c : Nat} (h : x.cps[i]? = some c) : c ∈ x.cps.toList := by
  rw [← Array.getElem?_toList] at h
  exact List.mem_of_getElem? h
theorem cps_list {x : Str} {i c : Nat} (h : x.cps[i]? = some c) : x.cps.toList[i]? = some c := by
  rw [Array.getElem?_toList]; exact h
theorem cps_at {x : Str} {i : Nat} (h : i < x.cps.size) : ∃ c, x.cps[i]? = some c := ⟨x.cps[i], by simp [h]⟩
end GP

namespace GP
open PySem L2 GwM
theorem str_snoc (x : Str) (c : Nat) : (x ++ (⟨#[c]⟩ : Str)).cps.toList = x.cps.toList ++ [c] := by
  show (x.cps ++ #[c]).toList = _
  simp
theorem str_snoc_size (x : Str) (c : Nat) : (x ++ (⟨#[c]⟩ : Str)).cps.size = x.cps.size + 1 := by
  show (x.cps ++ #[c]).size = _
  simp
end GP

namespace L2
open PySem PySem.Spec PyProof.Rows
/-! ### an exception's object, with or without a traceback; φ holds of its address and of its traceback's -/
def ExcN (h : Heap) (φ : Addr → Prop) (ea : Addr) (cls : Value) (od : Option Addr) : Prop :=
  φ ea ∧ ∃ vs sl, h.get? ea = some ⟨cls, od, .fields vs, sl⟩ ∧ (vs[1]? = some .none ∨
    ∃ T oT ts, vs[1]? = some (.ref T) ∧ T ≠ ea ∧ φ T ∧ h.get? T = some oT ∧ oT.data = .fields ts ∧ 3 < ts.size)
def ExcT (h : Heap) (φ : Addr → Prop) (ea : Addr) (cls : Value) (od : Option Addr) : Prop :=
  φ ea ∧ ∃ vs sl, h.get? ea = some ⟨cls, od, .fields vs, sl⟩ ∧
    ∃ T oT ts, vs[1]? = some (.ref T) ∧ T ≠ ea ∧ φ T ∧ h.get? T = some oT ∧ oT.data = .fields ts ∧ 3 < ts.size
theorem ExcT.n {h : Heap} {φ : Addr → Prop} {ea : Addr} {cls : Value} {od : Option Addr} (x : ExcT h φ ea cls od) : ExcN h φ ea cls od := by
  obtain ⟨p, vs, sl, e, t⟩ := x
  exact ⟨p, vs, sl, e, .inr t⟩
theorem ExcN.to {h : Heap} {φ ψ : Addr → Prop} {ea : Addr} {cls : Value} {od : Option Addr} (x : ExcN h φ ea cls od) (m : ∀ b, φ b → ψ b) : ExcN h ψ ea cls od := by
  obtain ⟨p, vs, sl, e, t⟩ := x
  refine ⟨m _ p, vs, sl, e, ?_⟩
  rcases t with t | ⟨T, oT, ts, a, b, c, d⟩
  · exact .inl t
  · exact .inr ⟨T, oT, ts, a, b, m _ c, d⟩
structure Noted (fr : List Addr) (φ : Addr → Prop) (h h' : Heap) : Prop where
  keep : ∀ b o, h.get? b = some o → ¬ φ b → b ∉ fr → h'.get? b = some o
  slot : ∀ b o, h.get? b = some o → ¬ φ b → ∃ sl, h'.get? b = some { o with slots := sl }
  there : ∀ b o, h.get? b = some o → ∃ o', h'.get? b = some o'
  size : h.objs.size ≤ h'.objs.size
theorem Noted.refl {fr : List Addr} {φ : Addr → Prop} {h : Heap} : Noted fr φ h h := ⟨fun _ _ e _ _ => e, fun _ o e _ => ⟨o.slots, e⟩, fun _ o e => ⟨o, e⟩, Nat.le_refl _⟩
theorem Noted.trans {fr : List Addr} {φ : Addr → Prop} {h h1 h2 : Heap} (a : Noted fr φ h h1) (b : Noted fr φ h1 h2) : Noted fr φ h h2 where
  keep := fun c o e n f => b.keep c o (a.keep c o e n f) n f
  slot := fun c o e n => by
    obtain ⟨sl, e1⟩ := a.slot c o e n
    obtain ⟨sl', e2⟩ := b.slot c _ e1 n
    exact ⟨sl', e2⟩
  there := fun c o e => by
    obtain ⟨o', e1⟩ := a.there c o e
    exact b.there c o' e1
  size := Nat.le_trans a.size b.size
section
variable {M : Model} {A : Around} {E : Value → Shared → Prop} {s : Shared} {base : Heap} {env e0 : Env} {r : List Env} {L ea : Addr} {φ : Addr → Prop} {cls : Value} {od : Option Addr}
theorem frameOf_top {Q : Value → Shared → Prop} (hs : A.frames = some (e0 :: r)) (hl : s.heap.FunFrames base (e0 :: r)) (h0 : e0.frame = some L) (he : env.frame = some L)
    (h : ∀ h', Heap.SlotsOnly ((e0 :: r).filterMap (·.frame)) s.heap h' → Q (.ref L) { s with heap := h' }) : wpAny M A (PySem.frameOf env) Q E s := by
  unfold PySem.frameOf
  refine wpAny_bind (wpAny_frameEnvs hs ?_)
  rw [show ((e0 :: r).dropWhile fun x => x.frame != env.frame) = e0 :: r by simp [List.dropWhile, h0, he]]
  unfold frameObject
  refine wpAny_bind (wpAny_bind (wpAny_readyFrames_fun hl fun h1 k1 => wpAny_pure ?_))
  rw [h0]
  exact wpAny_pure (h h1 k1)
theorem entry_exc {vs : Array Value} {sl : Array (Option Value)} {head : Value} {hadNext : Bool} {Q : Unit → Shared → Prop} (hs : A.frames = some (e0 :: r)) (hl : s.heap.FunFrames base (e0 :: r)) (h0 : e0.frame = some L) (hf : env.frame = some L)
    (pe : φ ea) (he : s.heap.get? ea = some ⟨cls, od, .fields vs, sl⟩) (h1 : 1 < vs.size) (new : ∀ b, s.heap.objs.size ≤ b → φ b)
    (q : ∀ h', Noted (frs (e0 :: r)) φ s.heap h' → ExcT h' φ ea cls od → Q () { s with heap := h' }) :
    wpAny M A (do let a ← PySem.frameOf env; let pl ← entryPlaceOf L hadNext; let b ← EntryCells.newEntry head a .none (rawInt L) .none pl; setField (.ref ea) 1 b) Q E s := by
  have nfr : ea ∉ (e0 :: r).filterMap (·.frame) := fun hm => by
    obtain ⟨_, o, ho, nf⟩ := hl.mem hm
    rw [he] at ho
    cases ho
    exact nf vs rfl
  refine wpAny_bind (frameOf_top hs hl h0 hf fun g k => ?_)
  refine wpAny_bind (wpAny_entryPlaceOf fun pl pk => ?_)
  simp only [EntryCells.newEntry, newFields]
  refine wpAny_bind (wpAny_newObj_type ?_ (pk.sizeOk5 _ _ _ _ _))
  have e1 : g.get? ea = some ⟨cls, od, .fields vs, sl⟩ := (k.2.1 ea nfr).trans he
  have ne : g.objs.size ≠ ea := Nat.ne_of_gt (Heap.lt_size e1)
  generalize hob : ({ cls := .type "traceback", dict := none, data := .fields ([head, .ref L, .none, rawInt L, .none] ++ (if pl.isEmpty then List.replicate 6 Value.none else pl)).toArray } : Obj) = ob
  have e2 := Heap.get?_push_of_some (h := g) ob e1
  refine wpAny_setField e2 rfl h1 (q _ ⟨fun b o e n f => ?_, fun b o e n => ?_, fun b o e => ?_, ?_⟩ ⟨pe, _, sl, Heap.get?_update_self _ e2 rfl, g.objs.size, ob, _, ?_, ne, new _ (Nat.le_of_eq k.1.symm), ?_, by subst hob; rfl, ?_⟩)
  · have be : b ≠ ea := fun z => n (z ▸ pe)
    rw [Heap.get?_update_other _ _ (Ne.symm be)]
    exact Heap.get?_push_of_some _ ((k.2.1 b f).trans e)
  · have be : b ≠ ea := fun z => n (z ▸ pe)
    obtain ⟨sl', e'⟩ := k.2.2 b o e
    refine ⟨sl', ?_⟩
    rw [Heap.get?_update_other _ _ (Ne.symm be)]
    exact Heap.get?_push_of_some _ e'
  · by_cases be : b = ea
    · subst be
      exact ⟨_, Heap.get?_update_self _ e2 rfl⟩
    · obtain ⟨sl', e'⟩ := k.2.2 b o e
      exact ⟨{ o with slots := sl' }, (Heap.get?_update_other _ _ (Ne.symm be)).trans (Heap.get?_push_of_some _ e')⟩
  · rw [Heap.size_after_update, Heap.size_push, k.1]
    exact Nat.le_succ _
  · simp [h1]
  · rw [Heap.get?_update_other _ _ (Ne.symm ne)]
    exact Heap.get?_push_size _ (by subst hob; rfl)
  · rw [List.size_toArray, List.length_append]
    exact Nat.lt_of_lt_of_le (by decide : 3 < 5) (Nat.le_add_right _ _)
theorem note_exc {Q : Unit → Shared → Prop} (hs : A.frames = some (e0 :: r)) (hl : s.heap.FunFrames base (e0 :: r)) (h0 : e0.frame = some L) (hf : env.frame = some L)
    (x : ExcN s.heap φ ea cls od) (new : ∀ b, s.heap.objs.size ≤ b → φ b) (q : ∀ h', Noted (frs (e0 :: r)) φ s.heap h' → ExcT h' φ ea cls od → Q () { s with heap := h' }) :
    wpAny M A (noteFrame (.ref ea) env) Q E s := by
  obtain ⟨pe, vs, sl, he, hv⟩ := x
  unfold noteFrame
  simp only [hf]
  rcases hv with h1 | ⟨T, oT, ts, h1, ne, pT, hT, hd, h3⟩
  · refine wpAny_bind (wpAny_field he rfl h1 ?_)
    rw [if_neg (by decide)]
    exact entry_exc hs hl h0 hf pe he (Array.getElem?_eq_some_iff.mp h1).1 new q
  · have g3 : ts[3]? = some ts[3] := Array.getElem?_eq_getElem h3
    refine wpAny_bind (wpAny_field he rfl h1 ?_)
    rw [if_pos (show (Value.ref T != Value.none) = true by simp)]
    refine wpAny_bind (wpAny_field hT hd g3 ?_)
    by_cases e3 : (ts[3] == rawInt L) = true
    · rw [if_pos e3]
      exact wpAny_pure (q s.heap Noted.refl ⟨pe, vs, sl, he, T, oT, ts, h1, ne, pT, hT, hd, h3⟩)
    · rw [if_neg e3]
      refine wpAny_bind (wpAny_setField hT hd h3 ?_)
      have other : ∀ b, b ≠ T → (s.heap.update T (Obj.mapFields (·.setIfInBounds 3 Value.none))).get? b = s.heap.get? b := fun b z => Heap.get?_update_other _ _ (Ne.symm z)
      have n1 : Noted (frs (e0 :: r)) φ s.heap (s.heap.update T (Obj.mapFields (·.setIfInBounds 3 Value.none))) := by
        refine ⟨fun b o e n f => (other b fun z => n (z ▸ pT)).trans e, fun b o e n => ⟨o.slots, (other b fun z => n (z ▸ pT)).trans e⟩, fun b o e => ?_, Nat.le_of_eq (Heap.size_after_update ..).symm⟩
        by_cases z : b = T
        · subst z
          exact ⟨_, Heap.get?_update_self _ hT (Obj.isFreed_of_fields (Obj.data_mapFields hd _))⟩
        · exact ⟨o, (other b z).trans e⟩
      refine entry_exc (s := { s with heap := s.heap.update T (Obj.mapFields (·.setIfInBounds 3 Value.none)) }) hs (hl.of_keeps fun b o e nf => ⟨o, (other b fun z => ?_).trans e, rfl⟩) h0 hf pe ((other ea (Ne.symm ne)).trans he) (Array.getElem?_eq_some_iff.mp h1).1
        (fun b hb => new b (Nat.le_trans n1.size hb)) fun h' n2 x2 => q h' (n1.trans n2) x2
      subst z
      rw [hT] at e
      cases e
      exact nf ts hd
theorem flight_exc {fl : Option Addr} {fr : List Addr} {Q : Unit → Shared → Prop} (x : ExcT s.heap φ ea cls od) (q : ∀ h', Noted fr φ s.heap h' → ExcT h' φ ea cls od → Q () { s with heap := h' }) :
    wpAny M A (setFlight (.ref ea) fl) Q E s := by
  obtain ⟨pe, vs, sl, he, T, oT, ts, h1, ne, pT, hT, hd, h3⟩ := x
  unfold setFlight
  refine wpAny_bind (wpAny_field he rfl h1 ?_)
  rw [if_pos (show (Value.ref T != Value.none) = true by simp)]
  have other : ∀ (f : Obj → Obj) b, b ≠ T → (s.heap.update T f).get? b = s.heap.get? b := fun f b z => Heap.get?_update_other _ _ (Ne.symm z)
  refine wpAny_setField hT hd h3 (q _ ⟨fun b o e n f => (other _ b fun z => n (z ▸ pT)).trans e, fun b o e n => ⟨o.slots, (other _ b fun z => n (z ▸ pT)).trans e⟩, fun b o e => ?_, Nat.le_of_eq (Heap.size_after_update ..).symm⟩
    ⟨pe, vs, sl, (other _ ea (Ne.symm ne)).trans he, T, _, _, h1, ne, pT, Heap.get?_update_self _ hT (Obj.isFreed_of_fields (Obj.data_mapFields hd _)), Obj.data_mapFields hd _, by simp [h3]⟩)
  by_cases z : b = T
  · subst z
    exact ⟨_, Heap.get?_update_self _ hT (Obj.isFreed_of_fields (Obj.data_mapFields hd _))⟩
  · exact ⟨o, (other _ b z).trans e⟩
end
end L2

namespace L2
open PySem PySem.Spec PyProof.Rows
section
variable {X : Cx} {pins : List (Addr × Obj)} {σ : St} {H H' : Hp} {s : Shared}
def XOk (X : Cx) (pins : List (Addr × Obj)) (H : Hp) (b : Addr) : Prop :=
  H b = none ∧ b ≠ X.env.locals ∧ b ∉ X.fs ∧ (X.s₀.heap.get? b = none ∨ b ∈ X.ex) ∧ (∀ x c, X.env.cells.lookup x = some c → c ≠ b) ∧ ∀ p ∈ X.pn ++ pins, p.1 ≠ b
theorem Inv.xok {b : Addr} (I : Inv X pins σ H s) (hn : s.heap.get? b = none) (hH : H' b = none) : XOk X pins H' b := by
  refine ⟨hH, fun z => ?_, fun z => ?_, ?_, fun x c e z => ?_, fun p hp z => ?_⟩
  · obtain ⟨m, ⟨o, _, _, ho, _⟩, _⟩ := I.loc
    rw [← z, hn] at ho
    cases ho
  · obtain ⟨_, o, ho, _⟩ := I.funs.mem z
    rw [hn] at ho
    cases ho
  · by_cases hx : b ∈ X.ex
    · exact .inr hx
    · left
      cases q : X.s₀.heap.get? b with
      | none => rfl
      | some o =>
        obtain ⟨o', e⟩ := I.base.there b o q hx
        rw [hn] at e
        cases e
  · obtain ⟨v, o, ho, _⟩ := I.cell x c e
    rw [z, hn] at ho
    cases ho
  · have q := (I.pin p hp).1
    rw [z, hn] at q
    cases q
theorem Inv.xnew {b : Addr} (I : Inv X pins σ H s) (hb : s.heap.objs.size ≤ b) : XOk X pins H b := I.xok (Heap.get?_none_of_le hb) (I.hok.fresh hb)
theorem Un.noted {fs fr ex : List Addr} {H₀ : Hp} {h₀ h h' : Heap} {φ : Addr → Prop} (u : Un fs ex H₀ H h₀ h) (n : Noted fr φ h h') (new : ∀ b o, h₀.get? b = some o → b ∉ ex → ¬ φ b) (hf : ∀ b o, h₀.get? b = some o → b ∈ fr → b ∈ fs) : Un fs ex H₀ H h₀ h' where
  keep := fun b o e hn nf nx => n.keep b o (u.keep b o e hn nf nx) (new b o e nx) fun z => nf (hf b o e z)
  slot := fun b o e hn hb nx => by
    obtain ⟨sl, e1⟩ := u.slot b o e hn hb nx
    obtain ⟨sl', e2⟩ := n.slot b _ e1 (new b o e nx)
    exact ⟨sl', e2⟩
  free := u.free
  there := fun b o e nx => by
    obtain ⟨o', e1⟩ := u.there b o e nx
    exact n.there b o' e1
  tups := u.tups
  frzs := u.frzs
  tbls := u.tbls
theorem HOk.noted {P : Program} {w : World} {h h' : Heap} {fr : List Addr} {φ : Addr → Prop} (x : HOk P w H h) (n : Noted fr φ h h') (hφ : ∀ b, φ b → H b = none) (hf : ∀ b ∈ fr, H b = none) : HOk P w H h' := fun a u e =>
  (x a u e).stay (fun b v hb q => by
    have nb : H b ≠ none := fun z => by
      rcases hb with y | y
      · rw [y, e] at z; cases z
      · rw [y] at z; cases z
    exact n.keep b v q (fun z => nb (hφ b z)) fun z => nb (hf b z)) (fun _ q => q) fun _ _ q => q
theorem Inv.noted {h' : Heap} (I : Inv X pins σ H s) (n : Noted (frs X.stack) (XOk X pins H) s.heap h') : Inv X pins σ H { s with heap := h' } := by
  have cellK : ∀ x c, X.env.cells.lookup x = some c → ∀ v, s.heap.IsCell c v → h'.IsCell c v := fun x c e v ⟨o, ho, hd⟩ => by
    obtain ⟨sl, q⟩ := n.slot c o ho fun k => k.2.2.2.2.1 x c e rfl
    exact ⟨_, q, hd⟩
  refine ⟨I.ok, I.os, I.bare, I.base.noted n (fun b o e nx k => ?_) (fun b o e z => ?_), ?_, fun x c e => ?_, I.free, I.freeC, fun p hp => ?_, I.hok.noted n (fun b k => k.1) I.stkFree, I.len⟩
  · rcases k.2.2.2.1 with z | z
    · rw [e] at z; cases z
    · exact nx z
  · rcases List.mem_cons.mp (I.stkSub b z) with q | q
    · subst q
      exact absurd (Nat.lt_of_lt_of_le (Heap.lt_size e) I.ok.above) (Nat.lt_irrefl _)
    · exact q
  · obtain ⟨m, ⟨o, es, ep, ho, rr⟩, hl⟩ := I.loc
    obtain ⟨sl, q⟩ := n.slot _ o ho fun k => k.2.1 rfl
    refine ⟨m, ⟨_, es, ep, q, rr⟩, fun i x v e1 e2 e3 => ?_⟩
    obtain ⟨u, rv, l⟩ := hl i x v e1 e2 e3
    refine ⟨u, rv, ?_⟩
    rcases l with l | ⟨k, c, e, z⟩
    · exact .inl l
    · exact .inr ⟨k, c, e, cellK x c e _ z⟩
  · obtain ⟨v, z⟩ := I.cell x c e
    exact ⟨v, cellK x c e v z⟩
  · obtain ⟨e, hn, ne, nf, d⟩ := I.pin p hp
    refine ⟨n.keep p.1 p.2 e (fun k => k.2.2.2.2.2 p hp rfl) fun z => ?_, hn, ne, nf, d⟩
    rcases List.mem_cons.mp (I.stkSub _ z) with q | q
    · exact ne q
    · exact nf q
end
theorem Un.same {fs ex : List Addr} {H₀ H : Hp} {h₀ h h' : Heap} (u : Un fs ex H₀ H h₀ h) (k : ∀ b o, h₀.get? b = some o → h'.get? b = h.get? b) : Un fs ex H₀ H h₀ h' where
  keep := fun b o e hn nf nx => (k b o e).trans (u.keep b o e hn nf nx)
  slot := fun b o e hn hb nx => by
    obtain ⟨sl, e1⟩ := u.slot b o e hn hb nx
    exact ⟨sl, (k b o e).trans e1⟩
  free := u.free
  there := fun b o e nx => by
    obtain ⟨o', e1⟩ := u.there b o e nx
    exact ⟨o', (k b o e).trans e1⟩
  tups := u.tups
  frzs := u.frzs
  tbls := u.tbls
/-! ### exceptions that leave a def, and what a body wants of them -/
def CXs (P : Program) (w : World) : CXT := fun outer H s E e s' => ∃ ea cls od H', e = .ref ea ∧ s'.os = s.os ∧ AllBare s'.gens ∧ Un (frs outer) [] H H' s.heap s'.heap ∧ HOk P w H' s'.heap ∧
  ExcN s'.heap (fun b => s.heap.get? b = none ∧ H' b = none) ea cls od ∧ E cls od H'
def Lets (X : Cx) (E : St → XK) : Prop := ∀ (pins : List (Addr × Obj)) (σ : St) (H : Hp) (s : Shared) (ea : Addr) (cls : Value) (od : Option Addr), Inv X pins σ H s → ExcN s.heap (XOk X pins H) ea cls od → E σ cls od H → X.xe (.ref ea) s
theorem Lets.pass {X : Cx} {E : St → XK} {pins : List (Addr × Obj)} {σ : St} {H : Hp} {s s' : Shared} {e : Value} (L : Lets X E) (I : Inv X pins σ H s) (h : CXs X.prog X.w X.stack H s (E σ) e s') : X.xe e s' := by
  obtain ⟨ea, cls, od, H', rfl, os, bare, un, hok, x, hE⟩ := h
  have I2 : Inv X pins σ H' s' := I.call' (ch := []) os un hok bare fun b z => nomatch z
  exact L pins σ H' s' ea cls od I2 (x.to fun b k => I.xok k.1 k.2) hE
theorem Lets.passes {X : Cx} {E : XK} (L : Lets X fun _ => E) : Passes (CXs X.prog X.w) X E := fun _ _ _ _ _ _ I h => L.pass I h
section
variable {P : Program} {w : World} {K : PySem.W.Frag} {mg : Str → Option Value} {base : Heap}
theorem lets_fn {N : List Str} {qual : Str} {scope : Scope} {f : Addr} {cd : Value} {A : Around} {outer : List Env} {s : Shared} {H : Hp} {E : XK} : Lets (cxOf (CXs P w) P w K mg base N qual scope f cd A outer s H E) fun _ => E := by
  intro pins σ H' s' ea cls od I x hE
  show wpAny _ _ (leaving _ (.ref ea)) _ _ s'
  unfold leaving
  refine wpAny_bind (note_exc I.ok.frames I.stack rfl rfl x (fun b hb => I.xnew hb) fun h1 n1 x1 => ?_)
  refine flight_exc (fr := frs (cxOf (CXs P w) P w K mg base N qual scope f cd A outer s H E).stack) x1 fun h2 n2 x2 => ?_
  have I2 := I.noted (n1.trans n2)
  refine ⟨ea, cls, od, H', rfl, I2.os, I2.bare, I2.base, I2.hok, x2.n.to fun b k => ⟨?_, k.1⟩, hE⟩
  rcases k.2.2.2.1 with z | z
  · exact z
  · exact nomatch z
theorem passesOwn_fn {N : List Str} {qual : Str} {scope : Scope} {f : Addr} {cd : Value} {A : Around} {outer : List Env} {s : Shared} {H : Hp} {E : XK} :
    PassesOwn (model P w) (cxOf (CXs P w) P w K mg base N qual scope f cd A outer s H E).A (cxOf (CXs P w) P w K mg base N qual scope f cd A outer s H E).env (cxOf (CXs P w) P w K mg base N qual scope f cd A outer s H E).xe := PassesOwn.leaving
theorem Fun.okX {x qual : Str} {st : Stmt} {f : Addr} {fd : FuncData} {N ps : List Str} {k : Nat} {sp : Sp} (F : Fun K x qual st f fd) (S : FnScope N ps (defScope st)) (len : ∀ vs H Q E, sp vs H Q E → vs.length = ps.length)
    (hbody : ∀ (cdv : Value) (A : Around) (outer : List Env) (s : Shared) (H : Hp) (vs : List V) (Q : VK) (E : XK), Room k (A.deeper (envOfC qual (defScope st) s.heap.objs.size f cdv)) → sp vs H Q E →
      ∃ t, PSs (cxOf (CXs P w) P w K mg base N qual (defScope st) f cdv A outer s H E) (defBody st) t ∧ t { nx := fun _ H' => Q .non H', rt := Q } (start N vs) H) : FnOk P w K mg base (CXs P w) (k + 1) f fd ps sp := by
  obtain ⟨oc, od, kV, doc, pm, an, cdv, ct, osl, rfl, lk, hcd⟩ := F.ex
  exact fn_of lk hcd S len fun A outer s H vs Q E hr hsp => hbody cdv A outer s H vs Q E hr hsp
end
theorem ObjOk.got {P : Program} {w : World} {H : Hp} {h : Heap} {a : Addr} {o : HO} (x : ObjOk P w H h a o) : h.get? a ≠ none := by
  cases o with
  | lst xs => obtain ⟨_, _, _, _, e⟩ := x; rw [e]; exact fun z => nomatch z
  | tup xs => obtain ⟨_, _, _, ob, e, _⟩ := x; rw [e]; exact fun z => nomatch z
  | dK kvs => obtain ⟨_, _, _, _, o, _, _, e, _⟩ := x; rw [e]; exact fun z => nomatch z
  | dT kvs => obtain ⟨_, _, _, _, o, _, _, e, _⟩ := x; rw [e]; exact fun z => nomatch z
  | set S n => obtain ⟨o, _, _, _, e, _⟩ := x; rw [e]; exact fun z => nomatch z
  | ins C dx fs => obtain ⟨_, _, _, e, _⟩ := x; rw [e]; exact fun z => nomatch z
  | own y => obtain ⟨_, e⟩ := x; rw [e]; exact fun z => nomatch z
  | xd fs => obtain ⟨_, ⟨_, _, _, e, _⟩, _⟩ := x; rw [e]; exact fun z => nomatch z
  | rng lo hi => obtain ⟨_, _, _, e⟩ := x; rw [e]; exact fun z => nomatch z
  | frz ob u => obtain ⟨e, _⟩ := x; rw [e]; exact fun z => nomatch z
  | tbl ps => have e : h.get? a = some _ := x; rw [e]; exact fun z => nomatch z
  | met f y => have e : h.get? a = some _ := x; rw [e]; exact fun z => nomatch z
  | ext φ => obtain ⟨_, ⟨_, e⟩, _⟩ := x; rw [e]; exact fun z => nomatch z
theorem HOk.none_of {P : Program} {w : World} {H : Hp} {h : Heap} {a : Addr} (x : HOk P w H h) (e : h.get? a = none) : H a = none := by
  cases q : H a with
  | none => rfl
  | some o => exact absurd e (x a o q).got
/-! ### raise of an own class -/
set_option genInjectivity false in
structure XP where
  nm : Str
  q : Str
  N : Addr
  bs : List Value
  bm : List Value
  hdct : Bool
  sn : List Str
  sub : List Value
  ab : Bool
  col : Option Bool
  dd : Option Addr
  k0 : Option Value
  k1 : Option Value
  k2 : Option Value
  k3 : Option Value
  k5 : Option Value
  mN : Str → Option Value
abbrev XP.obj (d : XP) (C : Addr) (newId : String) : Obj := excClassObj d.nm d.q C d.N d.bs d.bm d.hdct d.sn d.sub d.ab d.col d.dd d.k0 d.k1 d.k2 d.k3 d.k5 newId
end L2

namespace L2
open PySem PySem.Spec PyProof.Rows
/-! ### try .. except -/
def Fm (X : Cx) : Prop := ∃ e0 r L, X.stack = e0 :: r ∧ e0.frame = some L ∧ X.env.frame = some L
theorem fm_nox {CX : CXT} {P : Program} {w : World} {K : PySem.W.Frag} {mg : Str → Option Value} {base : Heap} {N : List Str} {qual : Str} {scope : Scope} {f : Addr} {cd : Value} {A : Around} {outer : List Env} {s : Shared} {H : Hp} {E : XK} :
    Fm (cxOf CX P w K mg base N qual scope f cd A outer s H E).nox := ⟨_, _, _, rfl, rfl, rfl⟩
abbrev Cx.also (X : Cx) (pn : List (Addr × Obj)) (xe : Value → Shared → Prop) : Cx := { X with pn := pn, xe := xe }
theorem Cx.Ok.also {X : Cx} (ok : X.Ok) (pn : List (Addr × Obj)) (xe : Value → Shared → Prop) : (X.also pn xe).Ok :=
  ⟨ok.mod, ok.kind, ok.glob, ok.blt, ok.above, ok.inj, ok.has, ok.cab, ok.hd, ok.frames, ok.stk, ok.exf, ok.bs, ok.bsz, ok.noex, ok.exfs, ok.funs, ok.frf⟩
section
variable {X : Cx} {pins ps : List (Addr × Obj)} {σ : St} {H : Hp} {s : Shared} {xe : Value → Shared → Prop}
theorem Inv.also (I : Inv X pins σ H s) : Inv (X.also (X.pn ++ pins) xe) [] σ H s :=
  ⟨I.ok.also _ _, I.os, I.bare, I.base, I.loc, I.cell, I.free, I.freeC, fun p hp => I.pin p (by simpa using hp), I.hok, I.len⟩
theorem Inv.unalso (ok : X.Ok) (I : Inv (X.also (X.pn ++ pins) xe) ps σ H s) : Inv X pins σ H s :=
  ⟨ok, I.os, I.bare, I.base, I.loc, I.cell, I.free, I.freeC, fun p hp => I.pin p (List.mem_append_left _ hp), I.hok, I.len⟩
theorem XOk.unalso {b : Addr} (k : XOk (X.also (X.pn ++ pins) xe) ps H b) : XOk X pins H b :=
  ⟨k.1, k.2.1, k.2.2.1, k.2.2.2.1, k.2.2.2.2.1, fun p hp => k.2.2.2.2.2 p (List.mem_append_left _ hp)⟩
theorem ExcT.to {h : Heap} {φ ψ : Addr → Prop} {ea : Addr} {cls : Value} {od : Option Addr} (x : ExcT h φ ea cls od) (m : ∀ b, φ b → ψ b) : ExcT h ψ ea cls od := by
  obtain ⟨p, vs, sl, e, T, oT, ts, a, b, c, d⟩ := x
  exact ⟨m _ p, vs, sl, e, T, oT, ts, a, b, m _ c, d⟩
end
abbrev TH := Value → Option Addr → TS
def PH (X : Cx) (hs : List ExceptHandler) (th : TH) : Prop :=
  ∀ (pins : List (Addr × Obj)) (s : Shared) (σ : St) (H : Hp) (D : Ends) (ea : Addr) (cls : Value) (od : Option Addr), Inv X pins σ H s → ExcT s.heap (XOk X pins H) ea cls od → th cls od D σ H →
    wpAny (model X.prog X.w) X.A (handleBy (.ref ea) X.env hs) (SP X pins D) X.xe s
def tTry (tb : (St → XK) → TS) (th : TH) : TS := fun D σ H => tb (fun σ' cls od H' => th cls od D σ' H') D σ H
theorem ps_try {X : Cx} {body : List Stmt} {h₀ : ExceptHandler} {hs : List ExceptHandler} {pos : Pos} {tb : (St → XK) → TS} {th : TH} (F : Fm X)
    (hb : ∀ (E : St → XK) (pn : List (Addr × Obj)) (xe : Value → Shared → Prop), Lets (X.also pn xe) E → PassesOwn (model X.prog X.w) X.A X.env xe → PSs (X.also pn xe) body (tb E)) (hh : PH X (h₀ :: hs) th) :
    PS X (.Try body (h₀ :: hs) [] [] pos) (tTry tb th) := by
  intro pins s σ H D I h
  obtain ⟨e0, r, L, hst, h0, hf⟩ := F
  refine wpAny_Try_except ?_
  generalize hxe : (fun e s₁ => wpAny (model X.prog X.w) X.A (noteFrame e X.env) (fun _ s₂ => wpAny (model X.prog X.w) X.A (setFlight e none) (fun _ s₃ => wpAny (model X.prog X.w) X.A (handleBy e X.env (h₀ :: hs)) (SP X pins D) X.xe s₃) X.xe s₂) X.xe s₁) = xe
  have LX : Lets (X.also (X.pn ++ pins) xe) fun σ' cls od H' => th cls od D σ' H' := by
    intro ps σ' H' s' ea cls od J x q
    show xe (.ref ea) s'
    subst hxe
    have fr := J.ok.frames
    have sf := J.stack
    refine note_exc (s := s') (e0 := e0) (r := r) (by rw [← hst]; exact fr) (by rw [← hst]; exact sf) h0 hf x (fun b hb => J.xnew hb) fun h1 n1 x1 => ?_
    refine flight_exc (fr := frs (e0 :: r)) x1 fun h2 n2 x2 => ?_
    have n12 := n1.trans n2
    rw [← hst] at n12
    have J2 := J.noted n12
    exact hh pins _ σ' H' D ea cls od (J2.unalso I.ok) (x2.to fun b k => k.unalso) q
  have po : PassesOwn (model X.prog X.w) X.A X.env xe := by
    subst hxe
    exact PassesOwn.looking
  refine wpAny_mono (hb _ _ xe LX po [] s σ H D I.also h) (fun f s1 q => ?_) fun e s1 q => ?_
  · cases f with
    | next =>
      obtain ⟨σ', H', J, q⟩ := q
      exact wpAny_execs_nil ⟨σ', H', J.unalso I.ok, q⟩
    | brk =>
      obtain ⟨σ', H', J, q⟩ := q
      exact ⟨σ', H', J.unalso I.ok, q⟩
    | cont =>
      obtain ⟨σ', H', J, q⟩ := q
      exact ⟨σ', H', J.unalso I.ok, q⟩
    | ret u =>
      obtain ⟨v, σ', H', J, rv, q⟩ := q
      exact ⟨v, σ', H', J.unalso I.ok, rv, q⟩
  · have q' : xe e s1 := q
    subst hxe
    exact q'
/-! ### the clauses -/
abbrev Cx.within (X : Cx) (ea : Addr) : Cx := { X with A := X.A.mark (some (.ref ea)), calm := false, xe := fun _ _ => False }
theorem Cx.Ok.within {X : Cx} (ok : X.Ok) (ea : Addr) : (X.within ea).Ok :=
  ⟨ok.mod, ok.kind, ok.glob, ok.blt, ok.above, ok.inj, ok.has, ok.cab, (fun z => nomatch z), ok.frames, ok.stk, ok.exf, ok.bs, ok.bsz, ok.noex, ok.exfs, ok.funs, ok.frf⟩
section
variable {X : Cx} {pins : List (Addr × Obj)} {σ : St} {H : Hp} {s : Shared} {ea : Addr}
theorem Inv.within (I : Inv X pins σ H s) (ea : Addr) : Inv (X.within ea) pins σ H s := ⟨I.ok.within ea, I.os, I.bare, I.base, I.loc, I.cell, I.free, I.freeC, I.pin, I.hok, I.len⟩
theorem Inv.behind (ok : X.Ok) (I : Inv (X.within ea) pins σ H s) : Inv X pins σ H s := ⟨ok, I.os, I.bare, I.base, I.loc, I.cell, I.free, I.freeC, I.pin, I.hok, I.len⟩
end
def exO (ea : Addr) (cls : Value) (od : Option Addr) : HO := .ext fun h => ∃ vs sl, h.get? ea = some ⟨cls, od, .fields vs, sl⟩
def Ends.un (D : Ends) (i : Nat) : Ends := { nx := fun σ H => D.nx (σ.set i none) H, rt := D.rt, bk := fun σ H => D.bk (σ.set i none) H, ct := fun σ H => D.ct (σ.set i none) H }
theorem Inv.tracks {X : Cx} {pins : List (Addr × Obj)} {σ : St} {H : Hp} {s : Shared} {a : Addr} {o : HO} (I : Inv X pins σ H s) (k : XOk X pins H a) (new : ObjOk X.prog X.w (upd H a o) s.heap a o) : Inv X pins σ (upd H a o) s := by
  obtain ⟨hn, k1, k2, k3, k4, k5⟩ := k
  refine ⟨I.ok, I.os, I.bare, ⟨I.base.keep, I.base.slot, fun b ob q n hx => ?_, I.base.there, fun b xs q => ?_, fun b ob u q => ?_, fun b ps q => ?_⟩, I.loc, I.cell, ?_, fun x c e => ?_, fun p hp => ?_, fun b u q => ?_, I.len⟩
  · have ne : b ≠ a := fun z => by
      rcases k3 with y | y
      · rw [← z, q] at y; cases y
      · exact hx (z ▸ y)
    rw [upd_ne ne]
    exact I.base.free b ob q n hx
  · have q' := I.base.tups b xs q
    rw [upd_ne (ne_of_none q' hn)]; exact q'
  · have q' := I.base.frzs b ob u q
    rw [upd_ne (ne_of_none q' hn)]; exact q'
  · obtain ⟨more, q'⟩ := I.base.tbls b ps q
    exact ⟨more, by rw [upd_ne (ne_of_none q' hn)]; exact q'⟩
  · rw [upd_ne (Ne.symm k1)]; exact I.free
  · rw [upd_ne (k4 x c e)]; exact I.freeC x c e
  · obtain ⟨e, n, r⟩ := I.pin p hp
    exact ⟨e, by rw [upd_ne (k5 p hp)]; exact n, r⟩
  · by_cases hb : b = a
    · subst hb; rw [upd_same] at q; cases q; exact new
    · rw [upd_ne hb] at q
      exact (I.hok b u q).stay (fun c v _ r => r) (fun c r => by rw [upd_ne (ne_of_none r hn)]; exact r) fun c xs r => by rw [upd_ne (ne_of_none r hn)]; exact r
structure XB (K : PySem.W.Frag) (D : Addr) : Prop where
  hd : PySem.W.hasDictIn K D = true
  ty : PySem.W.typeIn K (.ref D) = some (.type "type")
  be : PySem.W.mroIn K D (.type "BaseException") = some true
theorem exc_match {M : Model} {A : Around} {E : Value → Shared → Prop} {s : Shared} {K : PySem.W.Frag} {Q : Bool → Shared → Prop} {ea C D : Addr} {o : Obj} {b : Bool} (k : K.In s.heap) (he : s.heap.get? ea = some o) (hc : o.cls = .ref C)
    (h0 : PySem.W.subIn K (.ref C) (.ref D) = some b) (h2 : XB K D) (q : Q b s) : wpAny M A (excMatches (.ref ea) (.ref D)) Q E s := by
  have h1 : PySem.W.kitCls K (.ref C) (.ref D) = some b := by
    obtain ⟨cd, hcd, _⟩ := PySem.W.any_some h2.hd
    show (if ((PySem.W.clsIn K D).isSome && PySem.W.typeIn K (.ref D) == some (.type "type")) = true then PySem.W.subIn K (.ref C) (.ref D) else none) = some b
    rw [if_pos (by rw [hcd, h2.ty]; simp)]
    exact h0
  obtain ⟨lt, li, ls⟩ := PySem.W.kit_cls (M := M) k h1
  have lb := PySem.W.looks_mroIn (M := M) k h2.be
  have le : PySem.W.Looks M s.heap (typeOf (.ref ea)) (.ref C) := by
    intro A' Q' E' s' kk qq
    unfold typeOf
    exact wpAny_bind (wpAny_loadPart (kk _ _ he) (wpAny_pure (by rw [hc]; exact qq)))
  have l0 : PySem.W.Looks M s.heap (isInstance (.ref D) (.type "tuple")) false := lt.andThen (PySem.W.Looks.of_pure tc_notTuple)
  have l1 : PySem.W.Looks M s.heap (isExcClass (.ref D)) true := by
    unfold isExcClass
    exact li.andThen lb
  unfold excMatches
  refine wpAny_bind (l0.here (wpAny_bind ?_))
  simp only [Bool.false_eq_true, if_false]
  refine wpAny_pure ?_
  rw [List.forIn_cons]
  refine wpAny_bind (wpAny_bind (wpAny_bind (l1.here ?_)))
  simp only [Bool.not_true, Bool.false_eq_true, if_false]
  refine wpAny_pure (wpAny_pure ?_)
  refine wpAny_bind (le.here (wpAny_bind ?_))
  rw [List.forIn_cons]
  refine wpAny_bind (wpAny_bind (ls.here ?_))
  cases b with
  | true =>
    simp only [if_true]
    exact wpAny_pure (wpAny_pure (wpAny_pure q))
  | false =>
    simp only [Bool.false_eq_true, if_false]
    exact wpAny_pure (wpAny_pure (wpAny_pure q))
theorem name_goes {X : Cx} {pins : List (Addr × Obj)} {σ : St} {H : Hp} {s : Shared} {M : Model} {A : Around} {E : Value → Shared → Prop} {Q : Unit → Shared → Prop} {i : Nat} {n : Str} {pos : Pos} (I : Inv X pins σ H s) (hN : X.N.Nodup) (hi : X.N[i]? = some n) (hl : X.env.scope.names.lookup n = some .local)
    (h : ∀ s', Inv X pins (σ.set i none) H s' → Q () s') : wpAny M A (do bindName X.env n .none; unbindBehindTheSuite X.env n pos) Q E s := by
  obtain ⟨m, hn, hlk⟩ := I.loc
  refine wpAny_nameGoes_keeps hl hn (by rw [I.ok.kind]; rfl) fun h' v hn' sb => h _ ?_
  have cellK : ∀ x c, X.env.cells.lookup x = some c → ∀ v, s.heap.IsCell c v → h'.IsCell c v := fun x c e v ⟨o, ho, hd⟩ => ⟨o, (sb.2 c (I.cne x c e)).trans ho, hd⟩
  refine ⟨I.ok, I.os, I.bare, I.base.same fun b o e => sb.2 b (Nat.ne_of_lt (Nat.lt_of_lt_of_le (Heap.lt_size e) I.ok.above)), ⟨_, hn', fun j y u e1 e2 e3 => ?_⟩, fun x c e => ?_, I.free, I.freeC, fun p hp => ?_, I.hok.but I.free sb, by rw [List.length_set]; exact I.len⟩
  · have ji : i ≠ j := fun z => by
      subst z
      rw [List.getElem?_set_self (by rw [I.len]; exact (List.getElem?_eq_some_iff.mp hi).1)] at e2
      cases e2
    rw [List.getElem?_set_ne ji] at e2
    obtain ⟨w, rv, l⟩ := hlk j y u e1 e2 e3
    refine ⟨w, rv, ?_⟩
    rcases l with ⟨k1, k2⟩ | ⟨k, c, e, z⟩
    · refine .inl ⟨k1, ?_⟩
      have ne : y ≠ n := fun z => ji (nodup_ix hN hi (z ▸ e1))
      show (if y = n then v else m y) = some w
      rw [if_neg ne]
      exact k2
    · exact .inr ⟨k, c, e, cellK y c e _ z⟩
  · obtain ⟨v, z⟩ := I.cell x c e
    exact ⟨v, cellK x c e v z⟩
  · obtain ⟨e, hh, ne, r⟩ := I.pin p hp
    exact ⟨(sb.2 _ ne).trans e, hh, ne, r⟩
def tAs (K : PySem.W.Frag) (C : Addr) (i : Nat) (ts : TS) (th : TH) : TH := fun cls od D σ H => ∃ Ce b, cls = .ref Ce ∧ PySem.W.subIn K (.ref Ce) (.ref C) = some b ∧
  if b = true then ∀ ea, H ea = none → ts (D.un i) (σ.set i (some (.ref ea))) (upd H ea (exO ea cls od)) else th cls od D σ H
theorem ph_as {X : Cx} {i : Nat} {n x : Str} {C : Addr} {b₀ : Stmt} {suite : List Stmt} {np pos : Pos} {rest : List ExceptHandler} {ts : TS} {th : TH} (hN : X.N.Nodup) (hi : X.N[i]? = some n) (hl : X.env.scope.names.lookup n = some .local) (hg : Gl X x) (hm : X.mg x = some (.ref C))
    (hbe : XB X.K C) (hsu : ∀ ea, PSs (X.within ea) (b₀ :: suite) ts) (hr : PH X rest th) (hdb : (x == ("__debug__" : Str)) = false := by decide) :
    PH X (.ExceptHandler (some (.Name x np)) (some n) (b₀ :: suite) pos :: rest) (tAs X.K C i ts th) := by
  intro pins s σ H D ea cls od I x h
  obtain ⟨Ce, b, rfl, hk, h⟩ := h
  obtain ⟨pe, vs, sl, he, hT⟩ := id x
  refine wpAny_handleBy_cons (codeAny_handlers_test (ld_glob (X := X.within ea) (I.within ea) hg hm ?_ hdb)) (by intro q; cases q)
  refine exc_match I.kIn he rfl hk hbe ?_
  cases b with
  | false => exact hr pins s σ H D ea _ od I x h
  | true =>
    refine codeAny_handlers_suite_as ?_
    refine flight_exc (fr := frs X.stack) x fun h1 n1 x1 => ?_
    have I1 := I.noted n1
    obtain ⟨pe1, vs1, sl1, he1, _⟩ := id x1
    have I2 : Inv X pins σ (upd H ea (exO ea (.ref Ce) od)) { s with heap := h1 } := I1.tracks pe1 ⟨⟨vs1, sl1, he1⟩, ⟨_, he1⟩, fun h1 h2 ⟨v, s', e⟩ k => ⟨v, s', k _ e⟩⟩
    refine store_ok (X := X.within ea) (I2.within ea) hN hi (.inl hl) (v := .ref ea) rfl (fun s2 I3 => ?_) (.inr hl)
    have z := hsu ea pins s2 _ _ (D.un i) I3 (h ea pe1.1)
    refine wpAny_mono z (fun f s3 q => ?_) fun _ _ z => False.elim z
    cases f with
    | next =>
      obtain ⟨σ', H', J, q⟩ := q
      exact name_goes (J.behind I.ok) hN hi hl fun s4 J4 => ⟨_, _, J4, q⟩
    | brk =>
      obtain ⟨σ', H', J, q⟩ := q
      exact name_goes (J.behind I.ok) hN hi hl fun s4 J4 => ⟨_, _, J4, q⟩
    | cont =>
      obtain ⟨σ', H', J, q⟩ := q
      exact name_goes (J.behind I.ok) hN hi hl fun s4 J4 => ⟨_, _, J4, q⟩
    | ret u =>
      obtain ⟨v, σ', H', J, rv, q⟩ := q
      exact name_goes (J.behind I.ok) hN hi hl fun s4 J4 => ⟨v, _, _, J4, rv, q⟩
theorem ph_nil {X : Cx} : PH X [] fun _ _ _ _ _ => False := fun _ _ _ _ _ _ _ _ _ _ h => False.elim h
/-! ### calls in a try -/
def tCallX (sp : Sp) (dvs : List V) (E : St → XK) (t : TA) : TE := fun σ H Q => t σ H fun vs H1 => sp (vs ++ dvs) H1 Q (E σ)
section
variable {X : Cx} {k : Nat} {f C : Addr} {fd : FuncData} {ps : List Str} {sp : Sp} {dvs : List V} {ds : List Value} {E : St → XK} {x : Str} {p pos : Pos} {e : Expr} {es : List Expr} {t : TA}
theorem pe_callX (F : FnOk X.prog X.w X.K X.mg X.base (CXs X.prog X.w) k f fd ps sp) (hr : Room k X.A) (hg : Gl X x) (hm : X.mg x = some (.ref f)) (hk : PySem.W.keepIn X.K (.ref f) = true) (hb : Binds X.K fd ps ds) (hd : Vals dvs ds) (LX : Lets X E)
    (ha : PA X (e :: es) t) (hdb : (x == ("__debug__" : Str)) = false := by decide) (he : starEach (e :: es) X.env = (false, eval e X.env) :: starEach es X.env := by rfl) (hpl : (backTo pos (starEach es X.env)).any (·.1) = false := by rfl) :
    PE X (.Call (.Name x p) (e :: es) [] pos) (tCallX sp dvs E t) := by
  intro pins s σ H Q I h
  refine wpAny_Call_Name_kw (ld_glob I hg hm ?_ hdb)
  refine PySem.W.callWith_K (h₀ := X.base) I.ok.mod.kin hk (thn (ha pos pins s σ H _ I h) fun us s1 ⟨vs, H1, I1, r, q⟩ => ⟨I1.kIn, ?_⟩) he hpl
  have r2 : Vals (vs ++ dvs) (us ++ ds) := r.append hd
  have hl : (us ++ ds).length = ps.length := by rw [← r2.length]; exact F.len _ _ _ _ q
  refine wpAny_call (codeAny_mono (F.run X.A X.stack s1 H1 ⟨us, []⟩ (us ++ ds) (vs ++ dvs) Q (E σ) hr I1.env0 (hb s1 us I1.kIn hl) r2 q) fun rr s' hq => ?_)
  cases rr with
  | error e => exact LX.pass I1 hq
  | ok fl =>
    cases fl with
    | ret u => exact I1.after hq
    | next => exact False.elim hq
    | brk => exact False.elim hq
    | cont => exact False.elim hq
end
end L2

namespace L2
open PySem PySem.Spec PyProof.Rows
end L2

namespace L2
open PySem PySem.Spec PyProof.Rows
section
variable {X : Cx}
abbrev TJ := St → Hp → Str → (Str → Hp → Prop) → Prop
def PJ (X : Cx) (es : List Expr) (tj : TJ) : Prop := ∀ (pins : List (Addr × Obj)) (s : Shared) (σ : St) (H : Hp) (acc : Str) (R : Str → Hp → Prop), Inv X pins σ H s → tj σ H acc R →
  Joins (model X.prog X.w) X.A X.xe (evalEach es X.env) acc (fun out s1 => out.length ≤ sizeLine ∧ ∃ H1, Inv X pins σ H1 s1 ∧ R out H1) s
theorem pj_nil : PJ X [] (fun _ H acc R => acc.length ≤ sizeLine ∧ R acc H) := fun _ _ _ H _ _ I h => ⟨h.1, H, I, h.2⟩
theorem pj_cons {e : Expr} {es : List Expr} {te : TE} {tj : TJ} (he : PE X e te) (hr : PJ X es tj) (hx : evalEach (e :: es) X.env = eval e X.env :: evalEach es X.env := by rfl) :
    PJ X (e :: es) (fun σ H acc R => te σ H fun v H1 => ∃ y, v = .str y ∧ (acc ++ y).length ≤ sizeLine ∧ tj σ H1 (acc ++ y) R) := by
  intro pins s σ H acc R I h
  rw [hx]
  refine thn (he pins s σ H _ I h) fun u s1 ⟨v, H1, I1, r, y, e1, hl, q⟩ => ?_
  subst e1
  obtain ⟨t, rfl⟩ := r
  exact ⟨y, t, rfl, hl, hr pins s1 σ H1 _ R I1 q⟩
theorem joins_imp {M : Model} {A : Around} {E : Value → Shared → Prop} : ∀ {parts : List (Sem Value)} {acc : Str} {Q Q' : Str → Shared → Prop} {s : Shared}, Joins M A E parts acc Q s → (∀ out s1, Q out s1 → Q' out s1) → Joins M A E parts acc Q' s
  | [], _, _, _, _, h, k => k _ _ h
  | _ :: _, _, _, _, _, h, k => thn h fun _ _ ⟨y, t, e, hl, q⟩ => ⟨y, t, e, hl, joins_imp q k⟩
theorem pe_join {v₁ v₂ : Expr} {rest : List Expr} {pos : Pos} {tj : TJ} (h : PJ X (v₁ :: v₂ :: rest) tj) : PE X (.JoinedStr (v₁ :: v₂ :: rest) pos) (fun σ H Q => tj σ H Str.empty fun out H1 => Q (.str out) H1) := by
  intro pins s σ H Q I q
  refine wpAny_JoinedStr (joins_imp (h pins s σ H Str.empty _ I q) fun out s1 ⟨hl, H1, I1, q1⟩ => ⟨hl, .str out, H1, I1.tok _, ⟨_, rfl⟩, q1⟩)
theorem pe_fmt {value : Expr} {pos : Pos} {te : TE} (he : PE X value te) : PE X (.FormattedValue value (-1) none pos) (fun σ H Q => te σ H fun v H1 => ∃ i : Int, v = .int i ∧ i.natAbs.log2 < 1920 ∧ Q (.str (Str.ofString (toString i))) H1) := by
  intro pins s σ H Q I h
  refine wpAny_FormattedValue_plain (thn (he pins s σ H _ I h) fun u s1 ⟨v, H1, I1, r, i, e, hl, q⟩ => ?_)
  subst e
  obtain ⟨t, rfl⟩ := r
  exact wpAny_formatField_int hl ⟨.str (Str.ofString (toString i)), H1, (I1.tok _).tok _, ⟨_, rfl⟩, q⟩
end
/-! ### isinstance of a caught exception -/
structure XTy (K : PySem.W.Frag) (C : Addr) : Prop where
  ga : PySem.W.findIn K (.ref C) "__getattribute__" = some (some (.builtin "BaseException.__getattribute__"))
  gn : PySem.W.findIn K (.ref C) "__getattr__" = some none
  hd : PySem.W.hasDictIn K C = true
  ha : PySem.W.findIn K (.ref C) "__class__" = some (some (.builtin "object.__class__"))
  hn : PySem.W.specialIn K (.builtin "object.__class__") "__get__" = some (some (.builtin "getset_descriptor.__get__"))
  htk : PySem.W.takesIn K (.builtin "object.__class__") = some true
  hm : PySem.W.mroIn K C (.type "object") = some true
  hb : PySem.W.mroIn K C (.type "BaseException") = some true
end L2
namespace L2
open PySem PySem.Spec PyProof.Rows
end L2

namespace GP
open PySem L2 GwM
end GP

namespace L2
open PySem PySem.Spec PyProof.Rows
/-! ### a slice of a text -/
theorem sl_str {X : Cx} : SlR X (fun x lo hi H Q => ∃ y, x = .str y ∧ y.length ≤ sizeLine ∧ Q (.str (Txt.slice y lo hi)) H) := by
  intro pins s σ H x v vl vu lo hi sl Q I rx hs pl pu h
  obtain ⟨y, rfl, hz, q⟩ := h
  obtain ⟨t, rfl⟩ := rx
  refine ⟨"str", _, PySem.F.slot_str_getitem.lookup, typeIs_str _ _ _, ?_⟩
  have fin : (Txt.slice y lo hi).length ≤ sizeLine ∧ ∀ t' k, EP X pins σ Q (.str (Txt.slice y lo hi) t') { s with toks := k } := ⟨Nat.le_trans (Txt.slice_le y _ _) hz, fun t' k => ⟨.str (Txt.slice y lo hi), H, I.tok k, ⟨_, rfl⟩, q⟩⟩
  cases pl with
  | none =>
    cases pu with
    | none => exact wpAny_getItem_str_slice (l := none) (u := none) (st := none) hs rfl (post_val_or_str fin)
    | int j u => exact wpAny_getItem_str_slice (l := none) (u := some (j, u)) (st := none) hs rfl (post_val_or_str fin)
  | int i u =>
    cases pu with
    | none => exact wpAny_getItem_str_slice (l := some (i, u)) (u := none) (st := none) hs rfl (post_val_or_str fin)
    | int j u' => exact wpAny_getItem_str_slice (l := some (i, u)) (u := some (j, u')) (st := none) hs rfl (post_val_or_str fin)
theorem slice_mem {x : Str} {lo hi : Option Int} {c : Nat} (h : c ∈ (Txt.slice x lo hi).cps.toList) : c ∈ x.cps.toList := by
  unfold Txt.slice at h
  split at h
  · exact h
  · have h' : c ∈ (PySem.Builtin.Str.strSliceIndices lo hi 1 x.length).filterMap (x.cps[·]?) := by simpa using h
    obtain ⟨i, _, e⟩ := List.mem_filterMap.mp h'
    rw [← Array.getElem?_toList] at e
    exact List.mem_of_getElem? e
end L2
namespace GP
open PySem L2 GwM
end GP

namespace L2
open PySem PySem.Spec PyProof.Rows
section
variable {prog : Program} {w : World} {A : Around} {E : Value → Shared → Prop} {h : Heap} {gs : Array GenState} {dr : Drawn} {tk : Nat} {os : OsState}
variable {nm qn : Str} {C N : Addr} {bs tl bmB bmN : List Value} {hdct : Bool} {sn : List Str} {sub : List Value} {ab : Bool} {col : Option Bool} {dd : Option Addr} {k0 k1 k2 k3 k5 : Option Value} {B Bn newId nid initId inN : String}
theorem type_call_init {mN : Str → Option Value} {rest : List Value} {fI : Addr} {oI : Obj} {Q : Fin → Shared → Prop} (Fn : ExcBaseFacts Bn newId inN bmN) (hBn : bmB.contains (.type Bn) = true) (FB : ExcBaseFacts B nid initId bmB) (T : OwnTail h bmB tl)
    (hob : h.get? C = some (excClassObj nm qn C N bs tl hdct sn sub ab col dd k0 k1 k2 k3 k5 newId)) (hns : h.Ns N mN) (hini : mN "__init__" = some (.ref fI)) (hfo : h.get? fI = some oI) (hfc : oI.cls = .type "function")
    (hq : ∀ h' e, Heap.MadeExcOf h h' e (.ref C) rest → wpAny (model prog w) A (call (.ref fI) (.ref e :: rest)) (fun r s' => r = .none ∧ Q (.done (.ret (.ref e))) s') E ⟨h', gs, dr, tk, os⟩) (hz : rest.length ≤ sizeLine) :
    wpAny (model prog w) A (Builtin.«type.__call__» ⟨.ref C :: rest, []⟩) Q E ⟨h, gs, dr, tk, os⟩ := by
  repeat (first | with_reducible refine wpAny_loadPart_at hob ?_ | with_reducible refine wpAny_madeBy_exc hob ?_ | wp_step)
  refine codeAny_call_builtin_code (Code.quiet_builtin _ Fn.quiet) (wpAny_check_new_subU Fn hBn T hob ?_)
  refine codeAny_exc_new_subU Fn hBn FB T hob ?_ hz
  show wpAny _ _ _ _ _ _
  have kp : ∀ b o, h.get? b = some o → ((h.push { cls := .type "tuple", data := .seq rest.toArray }).push { cls := .ref C, data := .fields #[.ref h.objs.size, .none, .none, .none, .bool false, .none] }).get? b = some o := fun b o e => Heap.get?_push_of_some _ (Heap.get?_push_of_some _ e)
  have hob1 := kp _ _ hob
  have hfo1 := kp _ _ hfo
  have hns1 := hns.keeps kp
  have T1 := T.keeps kp
  have hget1 : ((h.push { cls := .type "tuple", data := .seq rest.toArray }).push { cls := .ref C, data := .fields #[.ref h.objs.size, .none, .none, .none, .bool false, .none] }).get? (h.objs.size + 1) = some { cls := .ref C, data := .fields #[.ref h.objs.size, .none, .none, .none, .bool false, .none] } := by heap_get
  have hself : (Value.ref C :: tl).contains (.ref C) = true := by simp
  unfold isInstance
  repeat (first | with_reducible refine wpAny_loadPart_at hget1 ?_ | (with_reducible refine wpAny_isSubtype_exc hob1 ?_; rw [hself]) | wp_step)
  show wpAny _ _ (typeLookup (.ref C) _) _ _ _
  refine wpAny_typeLookup_tail hob1 hns1 T1 FB.mroIs FB.init.lookup ?_
  rw [hini]
  refine wpAny_holding (wpAny_bind ?_)
  unfold bindSpecial
  refine wpAny_bind (wpAny_typeOf (T := "function") ⟨_, hfo1, hfc⟩ ?_)
  rw [if_pos (by decide)]
  have made : Heap.MadeExcOf h ((h.push { cls := .type "tuple", data := .seq rest.toArray }).push { cls := .ref C, data := .fields #[.ref h.objs.size, .none, .none, .none, .bool false, .none] }) (h.objs.size + 1) (.ref C) rest :=
    ⟨kp, Heap.get?_none_of_le (Nat.le_succ _), h.objs.size, hget1, Heap.get?_none_of_le (Nat.le_refl _), Heap.get?_push_of_some _ (Heap.get?_push_at rfl rfl)⟩
  refine wpAny_pure (wpAny_bind (wpAny_mono (hq _ _ made) (fun r s' hr => ?_) fun _ _ x => x))
  obtain ⟨rfl, hQ⟩ := hr
  wp_walk
  exact hQ
theorem call_init {mN : Str → Option Value} {rest : List Value} {fI : Addr} {oI : Obj} {Q : Value → Shared → Prop} (Fn : ExcBaseFacts Bn newId inN bmN) (hBn : bmB.contains (.type Bn) = true) (FB : ExcBaseFacts B nid initId bmB) (T : OwnTail h bmB tl)
    (hob : h.get? C = some (excClassObj nm qn C N bs tl hdct sn sub ab col dd k0 k1 k2 k3 k5 newId)) (hns : h.Ns N mN) (hini : mN "__init__" = some (.ref fI)) (hfo : h.get? fI = some oI) (hfc : oI.cls = .type "function")
    (hq : ∀ h' e, Heap.MadeExcOf h h' e (.ref C) rest → wpAny (model prog w) (A.under (.builtin "type.__call__" ⟨.ref C :: rest, []⟩)) (call (.ref fI) (.ref e :: rest)) (fun r s' => r = .none ∧ Q (.ref e) s') E ⟨h', gs, dr, tk, os⟩) (hz : rest.length ≤ sizeLine) :
    wpAny (model prog w) A (call (.ref C) rest) Q E ⟨h, gs, dr, tk, os⟩ := by
  have l1 := tc_lookup
  have l2 := tc_bind (.ref C)
  have hTy : (⟨h, gs, dr, tk, os⟩ : Shared).TypeIs (.ref C) "type" := ⟨_, hob, rfl⟩
  refine wpAny_call (codeAny_of_tree ?_)
  show wpAny _ _ (callAny (.ref C) _) _ _ _
  repeat (any_goals (first | assumption | with_reducible refine wpAny_loadPart_at hob ?_ | wp_step))
  refine ⟨rfl, codeAny_call_builtin_at (Code.quiet_builtin _ (by decide +kernel)) entry_typeCall (wpAny_check_type_call_sub hob (type_call_init Fn hBn FB T hob hns hini hfo hfc (fun h' e hm => ?_) hz))⟩
  exact hq h' e hm
end
end L2

namespace L2
open PySem PySem.Spec PyProof.Rows
/-! ### own exceptions with an __init__ and attributes of their own -/
def newX (e C : Addr) (od : Option Addr) : HO := .ext fun h => ∃ vs sl, h.get? e = some ⟨.ref C, od, .fields vs, sl⟩ ∧ vs[1]? = some .none
def xdO (dx : Addr) (fs : List (Str × V)) : HO := .ext fun h => ∃ mA, h.Ns1 dx mA ∧ (∀ f, RelO (fs.lookup f) (mA f)) ∧ PySem.Within mA (fs.map (·.1))
section
variable {P : Program} {w : World} {H : Hp} {h : Heap}
theorem newX_ok {e C : Addr} {od : Option Addr} {vs : Array Value} {sl : Array (Option Value)} (he : h.get? e = some ⟨.ref C, od, .fields vs, sl⟩) (h1 : vs[1]? = some .none) : ObjOk P w H h e (newX e C od) :=
  ⟨⟨vs, sl, he, h1⟩, ⟨_, he⟩, fun _ _ ⟨v, s, e, z⟩ k => ⟨v, s, k _ e, z⟩⟩
theorem xdO_ok {dx : Addr} {fs : List (Str × V)} {mA : Str → Option Value} (n : h.Ns1 dx mA) (r : ∀ f, RelO (fs.lookup f) (mA f)) (wi : PySem.Within mA (fs.map (·.1))) : ObjOk P w H h dx (xdO dx fs) :=
  ⟨⟨mA, n, r, wi⟩, (let ⟨o, _, _, e, _⟩ := n; ⟨o, e⟩), fun _ _ ⟨m, n, r, wi⟩ k => ⟨m, n.at k, r, wi⟩⟩
end
def del (H : Hp) (e : Addr) : Hp := fun b => if b = e then none else H b
theorem del_ne {H : Hp} {e b : Addr} (h : b ≠ e) : del H e b = H b := by unfold del; rw [if_neg h]
theorem del_same {H : Hp} {e : Addr} : del H e e = none := by unfold del; rw [if_pos rfl]
theorem del_none {H : Hp} {e b : Addr} (h : H b = none) : del H e b = none := by unfold del; split <;> first | rfl | exact h
theorem upd_eq {H : Hp} {a : Addr} {o : HO} (h : H a = some o) : upd H a o = H := by
  funext b
  unfold upd
  split
  · rename_i z; rw [z, h]
  · rfl
section
variable {X : Cx} {pins : List (Addr × Obj)} {σ : St} {H : Hp} {s : Shared}
theorem Inv.drop {e : Addr} {φ : Heap → Prop} (I : Inv X pins σ H s) (he : H e = some (.ext φ)) : Inv X pins σ (del H e) s := by
  have ne : ∀ {b : Addr} {o : HO}, H b = some o → (∀ ψ, o ≠ .ext ψ) → b ≠ e := fun {b o} hb n z => by
    subst z
    rw [he] at hb
    exact n _ (Option.some.inj hb).symm
  refine ⟨I.ok, I.os, I.bare, ⟨I.base.keep, I.base.slot, fun b ob q n hx => del_none (I.base.free b ob q n hx), I.base.there, fun b xs q => ?_, fun b ob u q => ?_, fun b ps q => ?_⟩, I.loc, I.cell, del_none I.free, fun x c q => del_none (I.freeC x c q), fun p hp => ?_, fun b u q => ?_, I.len⟩
  · have q' := I.base.tups b xs q
    rw [del_ne (ne q' fun ψ z => by cases z)]; exact q'
  · have q' := I.base.frzs b ob u q
    rw [del_ne (ne q' fun ψ z => by cases z)]; exact q'
  · obtain ⟨more, q'⟩ := I.base.tbls b ps q
    exact ⟨more, by rw [del_ne (ne q' fun ψ z => by cases z)]; exact q'⟩
  · obtain ⟨a, n, r⟩ := I.pin p hp
    exact ⟨a, del_none n, r⟩
  · have hb : b ≠ e := fun z => by rw [z, del_same] at q; cases q
    rw [del_ne hb] at q
    exact (I.hok b u q).stay (fun c v _ r => r) (fun c r => by rw [del_ne (ne r fun ψ z => by cases z)]; exact r) fun c xs r => by rw [del_ne (ne r fun ψ z => by cases z)]; exact r
end
section
variable {M : Model} {A : Around} {E : Value → Shared → Prop} {env : Env}
variable {nm q : Str} {C N : Addr} {bs bm : List Value} {hdct : Bool} {sn : List Str} {sub : List Value} {ab : Bool} {col : Option Bool} {dd : Option Addr} {k0 k1 k2 k3 k5 : Option Value} {newId : String}
theorem raise_made {s : Shared} {x : Sem Value} {Q : Flow → Shared → Prop} (hbase : bm.contains (.type "BaseException") = true) (hh : A.handled = none)
    (h : wpAny M A x (fun v s₁ => ∃ e od vs sl, v = .ref e ∧ s₁.heap.get? C = some (excClassObj nm q C N bs bm hdct sn sub ab col dd k0 k1 k2 k3 k5 newId) ∧
      s₁.heap.get? e = some ⟨.ref C, od, .fields vs, sl⟩ ∧ vs[1]? = some .none ∧ E (.ref e) s₁) E s) : wpAny M A (raiseStmt env (some x) none) Q E s := by
  have hcB : (Value.ref C :: bm).contains (.type "BaseException") = true := by rw [List.contains_cons, hbase, Bool.or_true]
  unfold raiseStmt
  refine wpAny_bind (wpAny_mono h (fun v s₁ h₁ => ?_) fun _ _ x => x)
  obtain ⟨e, od, vs, sl, rfl, hC, he, hv, hE⟩ := h₁
  obtain ⟨hp, g, d, tk, os⟩ := s₁
  repeat (first | with_reducible refine wpAny_loadPart_at he ?_ | with_reducible refine wpAny_loadPart_at hC ?_ | (with_reducible refine wpAny_isSubtype_exc hC ?_; rw [hcB]) | wp_step)
  rw [hv]
  refine wpAny_pure ?_
  rw [if_neg (by decide)]
  exact wpAny_pure (wpAny_raiseNew_none hh hE)
end
/-! ### what is known of the classes -/
def veMro : List Value := [.type "ValueError", .type "Exception", .type "BaseException", .type "object"]
structure XClsI (K : PySem.W.Frag) (C fI : Addr) : Prop where
  obj : ∀ h : Heap, K.In h → ∃ d : XP, h.get? C = some (d.obj C "ValueError.__new__") ∧ h.Ns d.N d.mN ∧ d.mN "__init__" = some (.ref fI) ∧ OwnTail h veMro d.bm
def excInI (K : PySem.W.Frag) (C fI : Addr) : Bool := match K.lookup C with
  | some ⟨.type "type", _, .cls cd, sl⟩ => (match cd.mro, sl.toList with
    | .ref C' :: bm, [_, _, _, _, some (.builtin n), _] => C' == C && n == "ValueError.__new__" && !cd.hasDel && PySem.W.tailIn K veMro bm && PySem.W.nsOkIn K cd.ns && PySem.W.nsIn K cd.ns "__init__" == some (some (.ref fI))
    | _, _ => false)
  | _ => false
theorem ns_some_of {K : PySem.W.Frag} {h : Heap} {N : Addr} {mg : Str → Option Value} {n : Str} {v : Value} (X : K.In h) (G : h.Ns N mg) (e : PySem.W.nsIn K N n = some (some v)) : mg n = some v := by
  obtain ⟨o, es, ep, ho, hd, _, hf⟩ := G
  unfold PySem.W.nsIn at e
  split at e
  · rename_i c d es' n' sl q
    have := X _ _ q
    rw [ho] at this
    cases this
    cases hd
    split at e
    · rename_i he
      cases e
      rw [← hf]
      unfold nsFind findBy
      rw [← Array.find?_toList, he]
      rfl
    · split at e
      · cases e
      · cases e
  · cases e
theorem xclsI_of {K : PySem.W.Frag} {C fI : Addr} (q : excInI K C fI = true) : XClsI K C fI := by
  refine ⟨fun h k => ?_⟩
  unfold excInI at q
  split at q
  · rename_i dd cd sl hob
    split at q
    · rename_i C' bm k0 k1 k2 k3 nn k5 hmr hsl0
      simp only [Bool.and_eq_true, beq_iff_eq, Bool.not_eq_true'] at q
      obtain ⟨⟨⟨⟨⟨e1, e2⟩, e3⟩, e4⟩, e5⟩, e6⟩ := q
      subst e1 e2
      obtain ⟨nm, bs, mro, ns, qn, hd, sn, sub, ab, col, del⟩ := cd
      dsimp only at hmr e3 e5 e6
      subst hmr e3
      have hsl : sl = #[k0, k1, k2, k3, some (.builtin "ValueError.__new__"), k5] := by
        obtain ⟨l⟩ := sl
        simp only at hsl0
        rw [hsl0]
      subst hsl
      have G : h.Ns ns _ := .of_isNs (PySem.W.isNs_of_in k e5)
      exact ⟨⟨nm, qn, ns, bs, bm, hd, sn, sub, ab, col, dd, k0, k1, k2, k3, k5, _⟩, k _ _ hob, G, ns_some_of k G e6, PySem.W.tail_of_in k e4⟩
    · cases q
  · cases q
structure XBase (K : PySem.W.Frag) (W : Addr) : Prop where
  ga : PySem.W.specialIn K (.ref W) "__getattribute__" = some (some (.builtin "type.__getattribute__"))
  rd : PySem.W.readsIn K W (.type "type") = true
  fd : PySem.W.findCls K (.ref W) (.type "type") "__init__" = some (.val (.builtin "ValueError.__init__"))
def tailVE : List Value → Bool
  | [] => false
  | v :: r => (v :: r) == veMro || match v with | .ref _ => tailVE r | _ => false
structure XSt (K : PySem.W.Frag) (C : Addr) : Prop where
  hd : PySem.W.hasDictIn K C = true
  po : ((PySem.W.clsIn K C).any fun cd => tailVE cd.mro) = true
  sa : PySem.W.findIn K (.ref C) "__setattr__" = some (some (.builtin "object.__setattr__"))
theorem refuse_ve (self : Value) : ∀ {l : List Value}, tailVE l = true → refuseLoop self "__setattr__" l = pure ()
  | [], e => by cases e
  | v :: r, e => by
    unfold tailVE at e
    rcases Bool.or_eq_true_iff.mp e with q | q
    · rw [beq_iff_eq.mp q]; exact PySem.F.store_ValueError.passes self
    · split at q
      · rw [refuseLoop_ref]; exact refuse_ve self q
      · cases q
theorem ve_has : ∀ {l : List Value}, tailVE l = true → l.contains (.type "object") = true
  | [], e => by cases e
  | v :: r, e => by
    unfold tailVE at e
    rcases Bool.or_eq_true_iff.mp e with q | q
    · rw [beq_iff_eq.mp q]; decide +kernel
    · split at q
      · rw [List.contains_cons, ve_has q, Bool.or_true]
      · cases q
end L2

namespace L2
open PySem PySem.Spec PyProof.Rows
/-! ### Base.__init__(self, text) -/
def tBase (K : PySem.W.Frag) (t : TA) : TE := fun σ H Q => t σ H fun vs H1 => ∃ e C fI od y, vs = [.ref e, y] ∧ H1 e = some (newX e C od) ∧ XClsI K C fI ∧ Q .non H1
theorem pe_base {X : Cx} {x : Str} {W : Addr} {np apos cpos : Pos} {a b : Expr} {t : TA} {pl : Sem Bool} (hW : XBase X.K W) (hg : Gl X x) (hm : X.mg x = some (.ref W)) (ha : PA X [a, b] t) (hdb : (x == ("__debug__" : Str)) = false := by decide)
    (hev : eval (.Call (.Attribute (.Name x np) "__init__" apos) [a, b] [] cpos) X.env = (do
      let ov ← eval (.Name x np) X.env
      standAt apos.atName
      let (f, first) ← holding [ov] (getMethod ov "__init__" pl)
      callWith cpos f first (backTo cpos (starEach [a, b] X.env)) (backToKw cpos (keywordEach [] X.env))) := by rfl)
    (hs : starEach [a, b] X.env = (false, eval a X.env) :: starEach [b] X.env := by rfl) (hpl : (backTo cpos (starEach [b] X.env)).any (·.1) = false := by rfl) :
    PE X (.Call (.Attribute (.Name x np) "__init__" apos) [a, b] [] cpos) (tBase X.K t) := by
  intro pins s σ H Q I h
  refine PySem.W.methodCall_KW (pl := pl) (ld_glob I hg hm ?_ hdb) hev
  refine PySem.W.method_cls I.kIn hW.ga (PySem.W.cls_value I.kIn hW.rd hW.fd (by decide +kernel) ?_)
  have hA := ha cpos pins { s with toks := s.toks + 1 } σ H _ (I.tok _) h
  rw [hs] at hA ⊢
  refine Calls.callWith_builtin (by show (false || (backTo cpos (starEach [b] X.env)).any (·.1)) = false; rw [hpl] <;> rfl) (Calls.evalArgs_plain ?_)
  refine thn hA fun us s2 ⟨vs, H2, I2, r2, e, C, fI, od, y, e1, hx, O, q⟩ => ?_
  subst e1
  obtain ⟨u1, u2, rfl, ru1, _⟩ := vals2 r2
  cases (show u1 = Value.ref e from ru1)
  obtain ⟨⟨vs, sl, he, h1⟩, _, _⟩ := (show ObjOk X.prog X.w H2 s2.heap e (newX e C od) from I2.hok e _ hx)
  obtain ⟨d, hC, hN, hni, T⟩ := O.obj s2.heap I2.kIn
  have F := PySem.F.excBase_ValueError
  have I2' := I2
  obtain ⟨hh, gs, dr, tk, os⟩ := s2
  show wpAny _ _ (call (.builtin "ValueError.__init__") [.ref e, u2]) _ _ _
  refine wpAny_call (codeAny_call_builtin F.init.plain F.initEntry (wpAny_check_init_subU F T hC he rfl ?_))
  have hv : 0 < vs.size := Nat.lt_of_le_of_lt (Nat.zero_le 1) (Array.getElem?_eq_some_iff.mp h1).1
  have hv0 : vs[0]? = some vs[0] := Array.getElem?_eq_getElem hv
  wp_walk
  rw [hv0]
  refine wpAny_pure ?_
  have hg : (hh.push { cls := .type "tuple", data := .seq #[u2] }).get? e = some ⟨.ref C, od, .fields vs, sl⟩ := Heap.get?_push_of_some _ he
  refine wpAny_bind (wpAny_setField hg rfl hv ?_)
  have hu := Heap.get?_update_self (Obj.mapFields (·.setIfInBounds 0 (Value.ref hh.objs.size))) hg rfl
  have fin : EP X pins σ Q Value.none ⟨(hh.push { cls := .type "tuple", data := .seq #[u2] }).update e (Obj.mapFields (·.setIfInBounds 0 (Value.ref hh.objs.size))), gs, dr, tk, os⟩ := by
    refine ⟨.non, H2, ?_, rfl, q⟩
    have J1 := I2'.kept (h' := hh.push { cls := .type "tuple", data := .seq #[u2] }) (t' := tk) fun b u z => Heap.get?_push_of_some _ z
    have J2 := J1.write (x := e) (e := e) (o := newX e C od) (t' := tk) (by rw [hx]; exact True.intro) (.inl rfl) (fun b u hb z => (Heap.get?_update_other _ _ (Ne.symm hb)).trans z) ⟨_, hu⟩ (newX_ok hu (by simp [h1]))
    rw [upd_eq hx] at J2
    exact J2
  cases hq : vs[0] with
  | ref t0 => exact wpAny_letGo (wpAny_pure fin)
  | _ => exact wpAny_pure (wpAny_pure fin)
end L2

namespace L2
open PySem PySem.Spec PyProof.Rows
section
variable {prog : Program} {w : World} {A : Around} {E : Value → Shared → Prop} {s : Shared} {K : PySem.W.Frag} {x dx C : Addr} {name : Str} {v : Value} {R : Result → Shared → Prop}
theorem osa_exc {ox : Obj} {od : Option Obj} {tk : Tok} (X : K.In s.heap) (I : PySem.W.InstAt s.heap x ox C od) (S : XSt K C) (ht : PySem.W.takerIn K C name = some none)
    (h : ∀ b, wpAny (model prog w) A.in1 (Builtin.ObjectAttr.storeInOwnDict (.ref x) (.ref C) (.str name tk) name v b)
      (fun fin s' => match fin with | .done f => R (.ok f) s' | .again c' => c'.quiet = true ∧ codeAny (model prog w) A c' R s') (fun e s' => R (.error e) s') s) :
    codeAny (model prog w) A (.call (.builtin "object.__setattr__") ⟨[.ref x, .str name tk, v], []⟩) R s := by
  have SF := PySem.F.store_object
  obtain ⟨cd, hc, ho⟩ := PySem.W.any_some S.po
  have ne : cd.mro.isEmpty = false := by cases q : cd.mro with | nil => rw [q] at ho; cases ho | cons _ _ => rfl
  have sub : PySem.W.Looks (model prog w) s.heap (isInstance (.ref x) (.type "object")) true := I.type.andThen (PySem.W.looks_mroIn X (by unfold PySem.W.mroIn; rw [hc, Option.bind_some, if_neg (by rw [ne]; decide), ve_has ho]))
  refine codeAny_call_builtin SF.slot.plain SF.entry (@PySem.W.check_slot (model prog w) _ _ s "object.__setattr__" "object" "__setattr__" (.ref x) [.str name tk, v] [] _ SF.kind SF.split sub (SF.args (.ref x) (.str name tk) v) ?_)
  obtain ⟨attr, ha, hr⟩ := Option.bind_eq_some_iff.mp ht
  have hm : PySem.W.Looks (model prog w) s.heap (mroOf (.ref C)) cd.mro := (PySem.W.looks_clsIn X hc).andThen .now
  have L3 : PySem.W.Looks (model prog w) s.heap (Builtin.ObjectAttr.storeTaker? attr) none := by
    cases attr with
    | none => cases hr; exact .now
    | some a =>
      obtain ⟨b, hb, e⟩ := Option.map_eq_some_iff.mp hr
      refine (PySem.W.looks_takesIn X hb).andThen ?_
      cases b with
      | false => exact .now
      | true => cases e
  rw [PySem.W.osa_eq, refuse_eq]
  refine wpAny_bind (wpAny_bind (I.type.here (wpAny_bind (hm.here ?_))))
  rw [refuse_ve _ ho]
  refine wpAny_pure (wpAny_bind (I.type.here (wpAny_bind ((PySem.W.looks_findIn X ha).here (wpAny_bind (L3.here ?_))))))
  exact h _
theorem store_some {vs : Array Value} {sl : Array (Option Value)} {mA : Str → Option Value} {ns : List Str} {Q : Unit → Shared → Prop} (X : K.In s.heap) (S : XSt K C) (ht : PySem.W.takerIn K C name = some none)
    (he : s.heap.get? x = some ⟨.ref C, some dx, .fields vs, sl⟩) (hn : s.heap.Ns1 dx mA) (hw : PySem.Within mA ns) (hsz : ns.length + 1 ≤ sizeLine)
    (h : ∀ h', h'.Ns1 dx (fun y => if y = name then some v else mA y) → Heap.SameBut dx s.heap h' → Q () { s with heap := h', toks := s.toks + 2 }) : wpAny (model prog w) A (setAttr (.ref x) name v) Q E s := by
  obtain ⟨od, ho, hl⟩ := lookIn_ns hn
  have J : PySem.W.InstAt s.heap x ⟨.ref C, some dx, .fields vs, sl⟩ C (some od) := ⟨he, rfl, rfl, ho⟩
  refine PySem.W.set_plain X J S.sa (osa_exc (s := { s with toks := s.toks + 1 }) X J S ht fun b => ?_)
  obtain ⟨cd, hc, hd'⟩ := PySem.W.any_some S.hd
  refine wpAny_bind (wpAny_pure (wpAny_bind (wpAny_bind (wpAny_loadPart he (wpAny_bind (PySem.W.Looks.here (s := { s with toks := s.toks + 1 }) (PySem.W.looks_clsIn X hc) ?_))))))
  rw [hd']
  refine wpAny_pure (a := some dx) (wpAny_bind (wpAny_pure (wpAny_bind ?_)))
  refine wpAny_nsSet1 (s := { s with toks := s.toks + 1 }) hn fun h' hn2 hs2 => ?_
  obtain ⟨oD, esD, epD, hoD, hdD, hcD⟩ := hn2.count (PySem.Within.cons name v hw)
  refine wpAny_bind (wpAny_lookBehind hoD (by rw [hdD]; exact pastItsLine_dict (Nat.le_trans hcD (by rw [List.length_cons]; omega))) ?_)
  exact wpAny_pure (h _ hn2 hs2)
theorem store_none {vs : Array Value} {sl : Array (Option Value)} {Q : Unit → Shared → Prop} (X : K.In s.heap) (S : XSt K C) (ht : PySem.W.takerIn K C name = some none)
    (he : s.heap.get? x = some ⟨.ref C, none, .fields vs, sl⟩)
    (h : ∀ h', h'.Ns1 s.heap.objs.size (fun y => if y = name then some v else none) → Heap.SameBut s.heap.objs.size ((s.heap.push PySem.W.emptyDict).update x fun o => { o with dict := some s.heap.objs.size }) h' → Q () { s with heap := h', toks := s.toks + 2 }) : wpAny (model prog w) A (setAttr (.ref x) name v) Q E s := by
  have J : PySem.W.InstAt s.heap x ⟨.ref C, none, .fields vs, sl⟩ C none := ⟨he, rfl, rfl, trivial⟩
  refine PySem.W.set_plain X J S.sa (osa_exc (s := { s with toks := s.toks + 1 }) X J S ht fun b => ?_)
  obtain ⟨cd, hc, hd'⟩ := PySem.W.any_some S.hd
  refine wpAny_bind (wpAny_pure (wpAny_bind (wpAny_bind (wpAny_loadPart he (wpAny_bind (PySem.W.Looks.here (s := { s with toks := s.toks + 1 }) (PySem.W.looks_clsIn X hc) ?_))))))
  rw [hd']
  rw [if_neg (by decide)]
  have hxs : x ≠ s.heap.objs.size := Nat.ne_of_lt (Heap.lt_size he)
  have hx₁ : (s.heap.push PySem.W.emptyDict).get? x = some ⟨.ref C, none, .fields vs, sl⟩ := Heap.get?_push_of_some _ he
  show wpAny (model prog w) A.in1 (alloc PySem.W.emptyDict >>= fun d => update x (fun o => { o with dict := some d }) >>= fun _ => dictMade (.ref C) x d) _ _ _
  refine wpAny_bind (wpAny_alloc (wpAny_bind (wpAny_update hx₁ ?_)))
  refine wpAny_pure ?_
  have hgd : ((s.heap.push PySem.W.emptyDict).update x fun o => { o with dict := some s.heap.objs.size }).get? s.heap.objs.size = some PySem.W.emptyDict :=
    (Heap.get?_update_ne _ _ _ _ hxs.symm).trans (Heap.get?_push_size _ rfl)
  have hnd : ((s.heap.push PySem.W.emptyDict).update x fun o => { o with dict := some s.heap.objs.size }).Ns s.heap.objs.size (fun _ => none) :=
    ⟨_, #[], _, hgd, rfl, fun e he => absurd he (by simp), fun _ => rfl⟩
  show wpAny _ _ (Builtin.ObjectAttr.storeInDict s.heap.objs.size (.str name s.toks) name v) _ _ _
  refine wpAny_bind (wpAny_pure (wpAny_bind ?_))
  refine wpAny_nsSet1 (s := { s with heap := (s.heap.push PySem.W.emptyDict).update x fun o => { o with dict := some s.heap.objs.size }, toks := s.toks + 1 }) (Heap.Ns1.of_empty hnd) fun h' hn2 hs2 => ?_
  obtain ⟨oD, esD, epD, hoD, hdD, hcD⟩ := hn2.count (PySem.Within.cons name v PySem.Within.nil)
  refine wpAny_bind (wpAny_lookBehind hoD (by rw [hdD]; exact pastItsLine_dict (Nat.le_trans hcD (by rw [List.length_cons, List.length_nil, sizeLine_eq]; omega))) ?_)
  exact wpAny_pure (h _ hn2 hs2)
end
end L2

namespace L2
open PySem PySem.Spec PyProof.Rows
/-! ### the rules -/
theorem relO_put {fs : List (Str × V)} {mA : Str → Option Value} {f : Str} {y : V} {u : Value} (r : ∀ g, RelO (fs.lookup g) (mA g)) (ry : RelV y u) : ∀ g, RelO ((putF f y fs).lookup g) (if g = f then some u else mA g) := fun g => by
  rw [lookup_putF]
  by_cases q : g = f
  · rw [if_pos q, if_pos q]; exact ry
  · rw [if_neg q, if_neg q]; exact r g
theorem within_put {fs : List (Str × V)} {mA : Str → Option Value} {f : Str} {y : V} {u : Value} (wi : PySem.Within mA (fs.map (·.1))) : PySem.Within (fun g => if g = f then some u else mA g) ((putF f y fs).map (·.1)) := fun g hg => by
  by_cases q : g = f
  · rw [q]; exact (keys_putF f y fs).1
  · refine (keys_putF f y fs).2 g (wi g fun z => hg ?_)
    show (if g = f then some u else mA g) = none
    rw [if_neg q]; exact z
def sFldX (K : PySem.W.Frag) (ta tv : TE) (f : Str) : TS := fun D σ H => tv σ H fun y H1 => ta σ H1 fun x H2 => ∃ e C, x = .ref e ∧ XSt K C ∧ NoAttr K C f ∧
  ((H2 e = some (newX e C none) ∧ ∀ dx, H2 dx = none → D.nx σ (upd (upd (upd H2 dx (xdO dx [])) e (newX e C (some dx))) dx (xdO dx (putF f y [])))) ∨
    ∃ dx fs, H2 e = some (newX e C (some dx)) ∧ H2 dx = some (xdO dx fs) ∧ fs.length < 1000 ∧ D.nx σ (upd H2 dx (xdO dx (putF f y fs))))
theorem ps_fldX {X : Cx} {o value : Expr} {f : Str} {pos pos' : Pos} {ta tv : TE} (ha : PE X o ta) (hv : PE X value tv) (hs : swapsWith value (some (.Attribute o f pos')) pos.line X.env = pure false) : PS X (.Assign [.Attribute o f pos'] value pos) (sFldX X.K ta tv f) := by
  intro pins s σ H D I h
  refine plainObj_wpAny_Assign_Attribute (thn (hv pins s σ H _ I h) fun u s1 ⟨y, H1, I1, ry, q⟩ => thn (ha pins s1 σ H1 _ I1 q) fun ov s2 ⟨x, H2, I2, rx, e, C, ex, S, n, hk⟩ => ?_) hs
  subst ex
  obtain rfl : ov = Value.ref e := rx
  rcases hk with ⟨hx, q2⟩ | ⟨dx, fs, hx, hd, hl, q2⟩
  · obtain ⟨⟨vs, sl, he, h1⟩, _, _⟩ := (show ObjOk X.prog X.w H2 s2.heap e (newX e C none) from I2.hok e _ hx)
    refine store_none I2.kIn S n.taker he fun h' hn' sb => ?_
    have ne : e ≠ s2.heap.objs.size := Nat.ne_of_lt (Heap.lt_size he)
    have e1 : (s2.heap.push PySem.W.emptyDict).get? s2.heap.objs.size = some PySem.W.emptyDict := Heap.get?_push_size _ rfl
    have n1 : (s2.heap.push PySem.W.emptyDict).Ns1 s2.heap.objs.size (fun _ => none) := Heap.Ns1.of_empty ⟨_, #[], _, e1, rfl, (fun e he => absurd he (by simp)), fun _ => rfl⟩
    have he1 : (s2.heap.push PySem.W.emptyDict).get? e = some ⟨.ref C, none, .fields vs, sl⟩ := Heap.get?_push_of_some _ he
    have he2 := Heap.get?_update_self (fun o => { o with dict := some s2.heap.objs.size }) he1 rfl
    have J1 := I2.laid (a := s2.heap.objs.size) (o := xdO s2.heap.objs.size []) (h' := s2.heap.push PySem.W.emptyDict) (t' := s2.toks) (fun b u q => Heap.get?_push_of_some _ q) (Nat.le_refl _) (xdO_ok n1 (fun _ => True.intro) (fun y hy => absurd rfl hy))
    have J2 := J1.write (x := e) (e := e) (o := newX e C (some s2.heap.objs.size)) (t' := s2.toks) (by rw [upd_ne ne, hx]; exact True.intro) (.inl rfl) (fun b u hb q => (Heap.get?_update_other _ _ (Ne.symm hb)).trans q) ⟨_, he2⟩ (newX_ok he2 h1)
    have J3 := J2.write (x := s2.heap.objs.size) (e := s2.heap.objs.size) (o := xdO s2.heap.objs.size (putF f y [])) (h' := h') (t' := s2.toks + 2) (by rw [upd_ne (Ne.symm ne), upd_same]; exact True.intro) (.inl rfl) (fun b u hb q => (sb.2 b hb).trans q) (let ⟨o, _, _, e, _⟩ := hn'; ⟨o, e⟩)
      (xdO_ok hn' (relO_put (mA := fun _ => none) (fun _ => True.intro) ry) (within_put (mA := fun _ => none) fun y hy => absurd rfl hy))
    exact ⟨σ, _, J3, q2 _ (I2.hok.fresh (Nat.le_refl _))⟩
  · obtain ⟨⟨vs, sl, he, h1⟩, _, _⟩ := (show ObjOk X.prog X.w H2 s2.heap e (newX e C (some dx)) from I2.hok e _ hx)
    obtain ⟨⟨mA, nA, rA, wA⟩, _, _⟩ := (show ObjOk X.prog X.w H2 s2.heap dx (xdO dx fs) from I2.hok dx _ hd)
    refine store_some I2.kIn S n.taker he nA wA (by rw [List.length_map, sizeLine_eq]; omega) fun h' hn' sb => ?_
    have J3 := I2.write (x := dx) (e := dx) (o := xdO dx (putF f y fs)) (h' := h') (t' := s2.toks + 2) (by rw [hd]; exact True.intro) (.inl rfl) (fun b u hb q => (sb.2 b hb).trans q) (let ⟨o, _, _, e, _⟩ := hn'; ⟨o, e⟩) (xdO_ok hn' (relO_put rA ry) (within_put wA))
    exact ⟨σ, _, J3, q2⟩
structure XMk (K : PySem.W.Frag) (C f : Addr) : Prop where
  cls : XClsI K C f
  fn : PySem.W.isFn K (.ref f) = true
  kp : PySem.W.keepIn K (.ref C) = true
def tRaiseI (C : Addr) (sp : Sp) (E : St → XK) (t : TA) : TS := fun _ σ H => t σ H fun vs H1 => vs.length ≤ sizeLine ∧ ∀ e, H1 e = none →
  sp (.ref e :: vs) (upd H1 e (newX e C none)) (fun v H2 => v = .non ∧ ∃ od, H2 e = some (newX e C od) ∧ E σ (.ref C) od (del H2 e)) (E σ)
theorem ps_raiseI {X : Cx} {E : St → XK} {C f : Addr} {x : Str} {np cpos pos : Pos} {k : Nat} {fd : FuncData} {ps : List Str} {sp : Sp} {e : Expr} {es : List Expr} {t : TA} (L : Lets X E) (M : XMk X.K C f)
    (F : FnOk X.prog X.w X.K X.mg X.base (CXs X.prog X.w) k f fd ps sp) (hr : Room (k + 1) X.A) (hb : Binds X.K fd ps []) (hc : X.calm = true)
    (hg : Gl X x) (hm : X.mg x = some (.ref C)) (ha : PA X (e :: es) t) (hdb : (x == ("__debug__" : Str)) = false := by decide) (he : starEach (e :: es) X.env = (false, eval e X.env) :: starEach es X.env := by rfl)
    (hpl : (backTo cpos (starEach es X.env)).any (·.1) = false := by rfl) : PS X (.Raise (some (.Call (.Name x np) (e :: es) [] cpos)) none pos) (tRaiseI C sp E t) := by
  intro pins s σ H D I h
  obtain ⟨d, hC, hN, hni, T⟩ := M.cls.obj X.base I.ok.mod.kin
  rw [arm_exec_Raise]
  have FB := PySem.F.excBase_ValueError
  simp only [evalOpt, Option.map]
  refine wpAny_bind (wpAny_standAt (raise_made (C := C) (nm := d.nm) (q := d.q) (N := d.N) (bs := d.bs) (bm := d.bm) (hdct := d.hdct) (sn := d.sn) (sub := d.sub) (ab := d.ab) (col := d.col) (dd := d.dd) (k0 := d.k0) (k1 := d.k1) (k2 := d.k2) (k3 := d.k3) (k5 := d.k5) (newId := "ValueError.__new__") (T.hasType FB.hasBase) (I.ok.hd hc) ?_))
  refine wpAny_bind (thn (Q := fun v s₁ => ∃ e od vs sl, v = .ref e ∧ s₁.heap.get? C = some (d.obj C "ValueError.__new__") ∧ s₁.heap.get? e = some ⟨.ref C, od, .fields vs, sl⟩ ∧ vs[1]? = some .none ∧ X.xe (.ref e) s₁) ?_ fun v s2 h2 => wpAny_bind (wpAny_standAt (wpAny_pure h2)))
  refine wpAny_Call_Name_kw (ld_glob I hg hm ?_ hdb)
  refine PySem.W.callWith_K (h₀ := X.base) I.ok.mod.kin M.kp (thn (ha cpos pins s σ H _ I h) fun us s1 ⟨vs, H1, I1, r, hl, q1⟩ => ⟨I1.kIn, ?_⟩) he hpl
  have hfo : ∃ o, s1.heap.get? f = some o ∧ o.cls = .type "function" := by
    obtain ⟨o, ho, hc⟩ := Option.map_eq_some_iff.mp (beq_iff_eq.mp M.fn)
    exact ⟨o, I1.kIn _ _ ho, hc⟩
  obtain ⟨oI, hfo, hfc⟩ := hfo
  have I1' := I1
  obtain ⟨hh, gs, dr, tk, os⟩ := s1
  refine call_init (N := d.N) (mN := d.mN) FB FB.hasB FB (T.keeps I1.bk) (I1.bk _ _ hC) (hN.keeps I1.bk) hni hfo hfc (fun h' ea made => ?_) (by show us.length ≤ sizeLine; rw [← r.length]; exact hl)
  obtain ⟨t', ht, _, _⟩ := made.there
  have xo := I1.xok made.new (I1.hok.none_of made.new)
  have J0 : Inv X pins σ H1 ⟨h', gs, dr, tk, os⟩ := I1.kept (t' := tk) made.keeps
  have J1 : Inv X pins σ (upd H1 ea (newX ea C none)) ⟨h', gs, dr, tk, os⟩ := J0.tracks xo (newX_ok ht rfl)
  have hq := q1 ea xo.1
  have r2 : Vals (V.ref ea :: vs) (Value.ref ea :: us) := .cons rfl r
  have hlen : (Value.ref ea :: us).length = ps.length := by rw [← r2.length]; exact F.len _ _ _ _ hq
  refine wpAny_call (codeAny_mono (F.run _ X.stack _ _ ⟨Value.ref ea :: us, []⟩ (Value.ref ea :: us) _ _ (E σ) (hr.make C us []) (J1.env0.make C us []) (by have z := hb _ (Value.ref ea :: us) J1.kIn (by rw [List.append_nil]; exact hlen); rw [List.append_nil] at z; exact z) r2 hq) fun rr s' hq' => ?_)
  cases rr with
  | error e => exact L.pass J1 hq'
  | ok fl =>
    cases fl with
    | ret u =>
      obtain ⟨v, H', I3, rv, ev, od, hx, qE⟩ := J1.after hq'
      subst ev
      obtain ⟨⟨vs', sl', he', h1'⟩, _, _⟩ := (show ObjOk X.prog X.w H' s'.heap ea (newX ea C od) from I3.hok ea _ hx)
      refine ⟨rv, ea, od, vs', sl', rfl, I3.bk _ _ hC, he', h1', ?_⟩
      exact L pins σ (del H' ea) s' ea (.ref C) od (I3.drop hx) ⟨⟨del_same, xo.2⟩, vs', sl', he', .inl h1'⟩ qE
    | next => exact False.elim hq'
    | brk => exact False.elim hq'
    | cont => exact False.elim hq'
end L2

namespace L2
open PySem PySem.Spec PyProof.Rows
section
variable {X : Cx} {a b c : Expr} {ta tb tc : TE} {pos : Pos} {rest : List Expr}
end
end L2

namespace L2
open PySem PySem.Spec PyProof.Rows
end L2

namespace GP
open PySem L2 GwM
/-! ### manners, and layings that are refused -/
theorem log_small {n : Nat} (h : n ≤ 100000) : ((n : Nat) : Int).natAbs.log2 < 1920 := by
  rw [Int.natAbs_natCast]
  by_cases z : n = 0
  · subst z; decide
  · rw [Nat.log2_lt z]
    exact Nat.lt_of_le_of_lt h (Nat.lt_of_lt_of_le (show 100000 < 2 ^ 20 by decide) (Nat.pow_le_pow_right (by decide) (by decide)))
theorem fit_app {a b : Str} {m n : Nat} (h1 : a.length ≤ m) (h2 : b.length ≤ n) : (a ++ b).length ≤ m + n := by rw [strLen_append]; omega
def spNoSign (C : Addr) : Sp := fun vs H Q _ => ∃ (e : Addr) (i j : Nat), vs = [.ref e, .int i, .int j] ∧ H e = some (newX e C none) ∧ i ≤ 100000 ∧ j ≤ 100000 ∧
  ∀ dx H', (∀ b u, H b = some u → b ≠ e → H' b = some u) → H dx = none → H' e = some (newX e C (some dx)) → H' dx = some (xdO dx (putF "place" (.int j) (putF "row" (.int i) []))) → Q .non H'
end GP

namespace L2
open PySem PySem.Spec PyProof.Rows
/-! ### a caught exception: an attribute of its own -/
theorem exc_attr {prog : Program} {w : World} {A : Around} {E : Value → Shared → Prop} {s : Shared} {K : PySem.W.Frag} {x C : Addr} {ox : Obj} {od : Option Obj} {name : Str} {expr : Bool} {v : Value} {Q : Value → Shared → Prop} (Z : XTy K C) (k : K.In s.heap) (I : PySem.W.InstAt s.heap x ox C od)
    (hf : PySem.W.findObj K C od name = some (.value v)) (hd : PySem.W.handedIn v = true) (h : Q v { s with toks := s.toks + 1 }) : wpAny (model prog w) A (getAttr (.ref x) name expr) Q E s := by
  obtain ⟨hh, g, d, t, os⟩ := s
  have L0 := I.type (M := model prog w)
  have L1 := PySem.W.looks_findIn (M := model prog w) k Z.ga
  have L2 := PySem.W.looks_findIn (M := model prog w) k Z.gn
  have LB := PySem.W.looks_mroIn (M := model prog w) k Z.hb
  have LF := PySem.W.looks_find (M := model prog w) k I hf
  unfold getAttr getAttrBy
  refine wpAny_bind (wpAny_mkText (wpAny_holding (wpAny_bind (L0.at (wpAny_bind (L1.at ?_))))))
  show wpAny _ _ (getAttrByItsOwn _ _ _ _ _ _) _ _ _
  unfold getAttrByItsOwn hookBefore
  refine wpAny_bind (L2.at ?_)
  refine wpAny_bind (wpAny_attempt (wpAny_holding ?_))
  have e0 : ∀ n : Value, callGetattribute (.ref x) n (.builtin "BaseException.__getattribute__") expr = boundAndCalled (.builtin "BaseException.__getattribute__") (.ref x) n := fun n => by
    unfold callGetattribute
    cases expr <;> rfl
  rw [e0]
  unfold boundAndCalled
  refine wpAny_bind (wpAny_of_eq (PySem.F.attr_ValueError.ga.bind (.ref x)) ?_)
  show wpAny _ _ (call (.builtin "BaseException.__getattribute__") [.ref x, .str name t]) _ _ _
  refine wpAny_call (codeAny_call_builtin PySem.F.attr_ValueError.ga.plain PySem.F.entry_bexc_ga ?_)
  have c1 : builtinKind "BaseException.__getattribute__" = some .slot := by decide +kernel
  have c2 : splitId "BaseException.__getattribute__" = some ("BaseException", "__getattribute__") := by decide +kernel
  have c3 := PySem.F.args_bexc_ga (.ref x) (.str name t)
  simp only [checkBuiltinCall, c1, c2]
  refine wpAny_bind (wpAny_bind (L0.at (LB.at ?_)))
  simp only [Bool.not_true, Bool.false_eq_true, if_false]
  unfold argsOk at c3
  refine wpAny_of_eq c3 ?_
  unfold Builtin.«object.__getattribute__»
  refine wpAny_bind (wpAny_pure (wpAny_bind (wpAny_pure (wpAny_bind (L0.at (wpAny_bind (LF.at ?_)))))))
  refine wpAny_pure ?_
  show wpAny _ _ (handedOut v) _ _ _
  rw [PySem.W.handedOut_of hd]
  exact wpAny_pure h
def tFldE (K : PySem.W.Frag) (ta : TE) (f : Str) : TE := fun σ H Q => ta σ H fun x H1 => ∃ e C dx fs i, x = .ref e ∧ H1 e = some (exO e (.ref C) (some dx)) ∧ H1 dx = some (xdO dx fs) ∧ XTy K C ∧ NoAttr K C f ∧ fs.lookup f = some (.int i) ∧ Q (.int i) H1
theorem inst_exc {P : Program} {w : World} {H : Hp} {h : Heap} {e C dx : Addr} {fs : List (Str × V)} (hok : HOk P w H h) (he : H e = some (exO e (.ref C) (some dx))) (hd : H dx = some (xdO dx fs)) :
    ∃ ox od, ∃ mA : Str → Option Value, PySem.W.InstAt h e ox C (some od) ∧ (∀ name, PySem.W.lookIn name od = some (mA name)) ∧ ∀ f, RelO (fs.lookup f) (mA f) := by
  obtain ⟨⟨vs, sl, h1⟩, _, _⟩ := (show ObjOk P w H h e (exO e (.ref C) (some dx)) from hok e _ he)
  obtain ⟨⟨mA, nA, rA, wA⟩, _, _⟩ := (show ObjOk P w H h dx (xdO dx fs) from hok dx _ hd)
  obtain ⟨od, ho, hl⟩ := lookIn_ns nA
  exact ⟨_, od, mA, ⟨h1, rfl, rfl, ho⟩, hl, rA⟩
theorem pe_fldE {X : Cx} {e : Expr} {f : Str} {pos : Pos} {ta : TE} (he : PE X e ta) (hb : attributeBase e f X.env (eval e X.env) = eval e X.env) : PE X (.Attribute e f pos) (tFldE X.K ta f) := by
  intro pins s σ H Q I h
  refine attr_of hb (thn (he pins s σ H _ I h) fun u s1 ⟨x, H1, I1, rx, e, C, dx, fs, i, ex, hx, hd, Z, n, l, q⟩ => ?_)
  subst ex
  obtain rfl : u = Value.ref e := rx
  obtain ⟨ox, od, mA, J, hl, rA⟩ := inst_exc I1.hok hx hd
  have r := rA f
  rw [l] at r
  cases hm : mA f with
  | none => rw [hm] at r; exact r.elim
  | some u =>
    rw [hm] at r
    obtain ⟨t, rfl⟩ := (show ∃ t, u = Value.int i t from r)
    refine exc_attr Z I1.kIn J ?_ rfl ⟨.int i, H1, I1.tok _, ⟨t, rfl⟩, q⟩
    obtain ⟨cd, hc, hdd⟩ := PySem.W.any_some Z.hd
    have hn : PySem.W.findIn X.K (.ref C) f = some none := n
    unfold PySem.W.findObj
    rw [hc, Option.bind_some, hn, Option.bind_some]
    simp only [Option.bind_some, PySem.W.ownOf, hdd, if_true, hl, hm]
/-! ### a text so many times -/
theorem strExt {x y : Str} (h : x.cps = y.cps) : x = y := by
  cases x
  cases y
  exact congrArg Str.mk h
def repS (x : Str) (n : Int) : Str := ⟨(List.replicate n.toNat x.cps).foldl (· ++ ·) #[]⟩
theorem rep_toList (a : Array Nat) : ∀ (n : Nat) (b : Array Nat), ((List.replicate n a).foldl (· ++ ·) b).toList = b.toList ++ (List.replicate n a.toList).flatten
  | 0, b => by simp
  | n + 1, b => by
    rw [List.replicate_succ, List.foldl_cons, rep_toList a n, List.replicate_succ, List.flatten_cons, Array.toList_append, List.append_assoc]
theorem repS_list (x : Str) (n : Int) : (repS x n).cps.toList = (List.replicate n.toNat x.cps.toList).flatten := by
  unfold repS
  rw [rep_toList]
  rfl
theorem repS_len (x : Str) (n : Int) : (repS x n).cps.size = n.toNat * x.cps.size := by
  rw [← Array.length_toList, repS_list, List.length_flatten, List.map_replicate, List.sum_replicate_nat]
  rfl
theorem op_repS {X : Cx} : OpR X (binaryOp .Mult) (fun x y H Q => ∃ z n, x = .str z ∧ y = .int n ∧ -1000000 ≤ n ∧ n ≤ 1000000 ∧ z.cps.size ≤ 1000000 ∧ n.toNat * z.cps.size ≤ sizeLine ∧ Q (.str (repS z n)) H) := by
  intro pins s σ H x y v u Q I rx ry h
  obtain ⟨z, n, rfl, rfl, h1, h2, h3, h4, q⟩ := h
  obtain ⟨t, rfl⟩ := rx
  obtain ⟨t', rfl⟩ := ry
  have hl : z.length = z.cps.size := rfl
  refine PySem.P.mul_str ?_ (fun k1 _ => ?_) (fun _ _ => ?_) ?_
  · rw [decide_eq_false (by omega), decide_eq_false (by omega)]; rfl
  · have k2 : 1 ≤ n := by omega
    have : (2 ^ 63 - 1 : Int) / n ≥ 1000000 := by
      rw [ge_iff_le, Int.le_ediv_iff_mul_le (by omega)]
      calc 1000000 * n ≤ 1000000 * 1000000 := by omega
        _ ≤ _ := by decide
    omega
  · show decide (z.length * n.toNat > sizeLine) = false
    rw [hl, Nat.mul_comm]
    exact decide_eq_false (Nat.not_lt.mpr h4)
  · have fin : ∀ y : Str, y = repS z n → ∀ t k, EP X pins σ Q (.str y t) { s with toks := k } := fun y e t k => ⟨.str (repS z n), H, I.tok k, ⟨t, by rw [e]⟩, q⟩
    by_cases k1 : n < 1
    · rw [if_pos k1]
      refine ⟨Nat.zero_le _, fin _ ?_ _ _⟩
      unfold repS
      rw [show n.toNat = 0 by omega]
      rfl
    · rw [if_neg k1]
      by_cases k2 : (n == 1 || z.length == 0) = true
      · rw [if_pos k2]
        refine fin _ ?_ _ s.toks
        rcases Bool.or_eq_true_iff.mp k2 with k | k
        · have e : n = 1 := by simpa using k
          subst e
          show z = ⟨#[] ++ z.cps⟩
          simp
        · have e : z.cps.size = 0 := (show z.length = 0 from eq_of_beq k)
          have e1 := repS_len z n
          rw [e, Nat.mul_zero] at e1
          have a1 : z.cps = #[] := Array.eq_empty_of_size_eq_zero e
          have a2 : (repS z n).cps = #[] := Array.eq_empty_of_size_eq_zero e1
          have : z.cps = (repS z n).cps := a1.trans a2.symm
          exact strExt this
      · rw [if_neg k2]
        refine ⟨?_, fin _ rfl _ _⟩
        show (repS z n).cps.size ≤ sizeLine
        rw [repS_len]
        exact h4
end L2

namespace GP
open PySem L2 GwM
/-! ### slices of a text -/
theorem slice_of {x : Str} {lo hi : Option Int} {a b : Nat} (e : PySem.Builtin.Str.strSliceIndices lo hi 1 x.length = PySem.Builtin.Str.strSliceIndices (some (a : Int)) (some (b : Int)) 1 x.length) (hab : a ≤ b) (hb : b ≤ x.cps.size) : (Txt.slice x lo hi).cps.toList = (x.cps.toList.drop a).take (b - a) := by
  have hb' : b ≤ x.length := hb
  have f := StrLaws.sliced_plain x hab hb'
  unfold Txt.slice
  rw [e]
  split
  · next h =>
    have hl : (PySem.Builtin.Str.strSliceIndices (some (a : Int)) (some (b : Int)) 1 x.length).length = x.length := by simpa using h
    rw [StrLaws.strSliceIndices_plain hab hb', List.length_map, List.length_range] at hl
    have hl' : b - a = x.cps.size := hl
    have ha : a = 0 := by omega
    subst ha
    rw [List.drop_zero, List.take_of_length_le (by rw [Array.length_toList]; omega)]
  · exact f
theorem slice_lo {x : Str} {k : Int} (h0 : 0 ≤ k) (h1 : k ≤ (x.cps.size : Int)) : (Txt.slice x none (some k)).cps.toList = x.cps.toList.take k.toNat := by
  obtain ⟨n, rfl⟩ : ∃ n : Nat, k = (n : Int) := ⟨k.toNat, (Int.toNat_of_nonneg h0).symm⟩
  have e := slice_of (x := x) (lo := none) (hi := some (n : Int)) (a := 0) (b := n) (by
    simp only [PySem.Builtin.Str.strSliceIndices]
    simp
    rw [show max (0 : Int) (min 0 (x.length : Int)) = 0 by omega]) (Nat.zero_le _) (by omega)
  rw [e, List.drop_zero]
  rfl
theorem slice_hi {x : Str} {k : Int} (h0 : 0 ≤ k) (h1 : k ≤ (x.cps.size : Int)) : (Txt.slice x (some k) none).cps.toList = x.cps.toList.drop k.toNat := by
  obtain ⟨n, rfl⟩ : ∃ n : Nat, k = (n : Int) := ⟨k.toNat, (Int.toNat_of_nonneg h0).symm⟩
  have e := slice_of (x := x) (lo := some (n : Int)) (hi := none) (a := n) (b := x.cps.size) (by
    have hl : x.length = x.cps.size := rfl
    simp only [PySem.Builtin.Str.strSliceIndices, hl]
    simp
    rw [if_neg (show ¬ (x.cps.size : Int) < 0 by omega), show max (0 : Int) (min (x.cps.size : Int) (x.cps.size : Int)) = (x.cps.size : Int) by omega]) (by omega) (Nat.le_refl _)
  rw [e, List.take_of_length_le (by rw [List.length_drop, Array.length_toList]; omega)]
  rfl
def fldS (i j : Nat) : List (Str × V) := putF "place" (.int j) (putF "row" (.int i) [])
theorem fldS_row {i j : Nat} : (fldS i j).lookup ("row" : Str) = some (.int i) := by
  unfold fldS
  rw [lookup_putF, if_neg (by decide +kernel), lookup_putF, if_pos rfl]
theorem fldS_place {i j : Nat} : (fldS i j).lookup ("place" : Str) = some (.int j) := by
  unfold fldS
  rw [lookup_putF, if_pos rfl]
theorem kit_str_dict {K : PySem.W.Frag} : PySem.W.kitOne K (.type "str") (.type "dict") = some false := by kernel_rfl
theorem kit_str_list {K : PySem.W.Frag} : PySem.W.kitOne K (.type "str") (.type "list") = some false := by kernel_rfl
theorem kit_str_tuple {K : PySem.W.Frag} : PySem.W.kitOne K (.type "str") (.type "tuple") = some false := by kernel_rfl
end GP

namespace GP
open PySem L2 GwM
end GP

namespace L2
open PySem PySem.Spec PyProof.Rows PySem.Builtin PySem.Builtin.Str
end L2

namespace GP
open PySem L2 GwM
theorem strApp (x y : Str) : (x ++ y).cps.toList = x.cps.toList ++ y.cps.toList := by
  show (x.cps ++ y.cps).toList = _
  rw [Array.toList_append]
theorem strAppSize (x y : Str) : (x ++ y).cps.size = x.cps.size + y.cps.size := by
  rw [← Array.length_toList, strApp, List.length_append, Array.length_toList, Array.length_toList]
theorem slice_up (x : Str) (b : Nat) : (Txt.slice x none (some (b : Int))).cps.toList = x.cps.toList.take b := by
  have hl : x.cps.toList.length = x.cps.size := Array.length_toList
  have e := slice_of (x := x) (lo := none) (hi := some (b : Int)) (a := 0) (b := min b x.cps.size) (by
    have hl : x.length = x.cps.size := rfl
    simp only [PySem.Builtin.Str.strSliceIndices, hl]
    simp
    rw [if_neg (by omega), if_neg (by omega)]
    congr 2 <;> omega) (by omega) (by omega)
  rw [e, List.drop_zero, Nat.sub_zero]
  by_cases h1 : b ≤ x.cps.size
  · rw [Nat.min_eq_left h1]
  · rw [Nat.min_eq_right (by omega), List.take_of_length_le (by omega), List.take_of_length_le (by omega)]
end GP

namespace GP
open PySem L2 GwM
/-! ### what each def promises -/
def Sgs (L : List Nat) : Prop := ∀ c ∈ L, isSignN c = true
def spAloneS : Sp := fun vs H Q _ => ∃ r : Str, vs = [.str r] ∧ r.cps.size ≤ 1000 ∧ Sgs r.cps.toList ∧ ∀ H', Same H H' → Q .non H'
def BadS (r : Str) (j : Nat) : Prop := (∃ c, r.cps[j]? = some c ∧ isSignN c = false) ∧ ∀ k c, k < j → r.cps[k]? = some c → isSignN c = true
def spAloneX (C : Addr) : Sp := fun vs H _ E => ∃ (r : Str) (j : Nat), vs = [.str r] ∧ r.cps.size ≤ 1000 ∧ BadS r j ∧ ∀ dx H', Same H H' → H' dx = some (xdO dx (fldS 0 j)) → E (.ref C) (some dx) H'
theorem kit_list_dict {K : PySem.W.Frag} : PySem.W.kitOne K (.type "list") (.type "dict") = some false := by kernel_rfl
theorem kit_list_tuple {K : PySem.W.Frag} : PySem.W.kitOne K (.type "list") (.type "tuple") = some false := by kernel_rfl
/-! ### what is the same -/
def atomV : V → Bool
  | .int _ => true
  | .str _ => true
  | _ => false
def spSameA : Sp := fun vs H Q _ => ∃ v, vs = [v, v] ∧ atomV v = true ∧ Q (.bl true) H
def Both (H : Hp) (p q : Addr) (xs ys : List V) : Prop := (H p = some (.tup xs) ∧ H q = some (.tup ys)) ∨ (H p = some (.lst xs) ∧ H q = some (.lst ys))
def SB (H : Hp) (v w : V) : Prop := (v = w ∧ atomV v = true) ∨ ∃ p q ys, v = .ref p ∧ w = .ref q ∧ (∀ y ∈ ys, atomV y = true) ∧ ys.length ≤ 1000 ∧ Both H p q ys ys
def spSameB : Sp := fun vs H Q _ => ∃ v w, vs = [v, w] ∧ SB H v w ∧ ∀ H', Same H H' → Q (.bl true) H'
theorem cut_int {ns : List Int} {lo hi : Option Int} {i : Nat} {y : V} (h : (cutV (ns.map V.int) lo hi)[i]? = some y) : i < ns.length ∧ ∃ n, y = .int n := by
  have h1 := (List.getElem?_eq_some_iff.mp h).1
  have h2 := cutV_length (ns.map V.int) lo hi
  rw [List.length_map] at h2
  refine ⟨by omega, ?_⟩
  have hm := List.mem_of_getElem? h
  unfold cutV at hm
  obtain ⟨n, _, e⟩ := List.mem_map.mp (List.mem_of_mem_drop (List.mem_of_mem_take hm))
  exact ⟨n, e.symm⟩
end GP

namespace GP
open PySem L2 GwM
theorem bad_put {r : Str} {pl c : Nat} {o : Str} (hs : Sgs r.cps.toList) (hp : pl ≤ r.cps.size) (hc : isSignN c = false) (ho : o.cps.toList = r.cps.toList.take pl ++ [c] ++ r.cps.toList.drop pl) : BadS o pl := by
  have hL : r.cps.toList.length = r.cps.size := Array.length_toList
  have ht : (r.cps.toList.take pl).length = pl := by rw [List.length_take]; omega
  refine ⟨⟨c, ?_, hc⟩, fun k d hk hd => ?_⟩
  · rw [← Array.getElem?_toList, ho, List.append_assoc, List.getElem?_append_right (by omega), ht, Nat.sub_self]
    rfl
  · rw [← Array.getElem?_toList, ho, List.append_assoc, List.getElem?_append_left (by omega)] at hd
    exact hs d (List.mem_of_mem_take (List.mem_of_getElem? hd))
end GP

set_option Elab.async false
set_option linter.all false
set_option maxRecDepth 100000
namespace TS
open PySem PyProof.Rows
def gal' : Bool → Keyed → Array Keyed → Nat → Nat → Nat → StateT SortSt Sem (Option Nat) := sortPriv% PySem.Builtin.gallop
def far (left : Bool) (key : Keyed) (arr : Array Keyed) (base i : Nat) : StateT SortSt Sem (Option Bool) := do
  let x ← elem' arr (base + i)
  if left then lt' x key else return (← lt' key x).map (!·)
def galTail (left : Bool) (key : Keyed) (arr : Array Keyed) (base n l0 h0 : Nat) : StateT SortSt Sem (Option Nat) := do
  let mut l := l0
  let mut h := h0
  for _ in [0:n] do
    if l ≥ h then break
    let m := l + (h - l) / 2
    let some mo ← far left key arr base m | return none
    if mo then l := m + 1 else h := m
  return some h
theorem gal'_eq (left : Bool) (key : Keyed) (arr : Array Keyed) (base n hint : Nat) : gal' left key arr base n hint = (do
  let some rt ← far left key arr base hint | return none
  if rt then
    let mut la := 0
    let mut oo := 1
    for _ in [0:n] do
      if oo ≥ n - hint then break
      let some mo ← far left key arr base (hint + oo) | return none
      if !mo then break
      la := oo
      oo := 2 * oo + 1
    galTail left key arr base n (hint + la + 1) (hint + min oo (n - hint))
  else
    let mut la := 0
    let mut oo := 1
    for _ in [0:n] do
      if oo ≥ hint + 1 then break
      let some fo ← far left key arr base (hint - oo) | return none
      if fo then break
      la := oo
      oo := 2 * oo + 1
    galTail left key arr base n (hint + 1 - min oo (hint + 1)) (hint - la)) := rfl
structure Cmp (prog : Program) (w : World) (A : Around) (s : Shared) (κ : SortKind) (Ok : Keyed → Prop) (R : Keyed → Keyed → Bool) : Prop where
  run : ∀ (E : Value → Shared → Prop) x y, Ok x → Ok y → ∀ Q : Bool → Shared → Prop, Q (R x y) s → wpAny (model prog w) A (keyLt' κ x.1 y.1) Q E s
  tr : ∀ x y z, Ok x → Ok y → Ok z → R y x = false → R z y = false → R z x = false
  as : ∀ x y, Ok x → Ok y → R x y = true → R y x = false
section
variable {prog : Program} {w : World} {A : Around} {E : Value → Shared → Prop} {s : Shared} {κ : SortKind} {Ok : Keyed → Prop} {R : Keyed → Keyed → Bool}
theorem wpS_lt' {st : SortSt} {x y : Keyed} {Q : Option Bool → SortSt → Prop} (C : Cmp prog w A s κ Ok R) (hk : kindOf st = κ) (hx : Ok x) (hy : Ok y) (h : Q (some (R x y)) st) : wpS (model prog w) A E s (lt' x y) Q st := by
  rw [lt'_eq]
  refine wpS_bind (wpS_get ?_)
  rw [hk]
  refine wpS_bind (wpS_lift (wpAny_attempt (C.run _ x y hx hy _ ⟨rfl, ?_⟩)))
  exact wpS_pure h
theorem wpS_elem {st : SortSt} {arr : Array Keyed} {i : Nat} {x : Keyed} {Q : Keyed → SortSt → Prop} (e : arr[i]? = some x) (h : Q x st) : wpS (model prog w) A E s (elem' arr i) Q st := by
  rw [elem'_eq, e]
  exact wpS_pure h
def farB (R : Keyed → Keyed → Bool) (left : Bool) (key x : Keyed) : Bool := if left then R x key else !R key x
theorem wpS_far {st : SortSt} {left : Bool} {key x : Keyed} {arr : Array Keyed} {base i : Nat} {Q : Option Bool → SortSt → Prop} (C : Cmp prog w A s κ Ok R) (hk : kindOf st = κ) (hkey : Ok key) (e : arr[base + i]? = some x) (hx : Ok x)
    (h : Q (some (farB R left key x)) st) : wpS (model prog w) A E s (far left key arr base i) Q st := by
  unfold far
  refine wpS_bind (wpS_elem e ?_)
  unfold farB at h
  cases left with
  | true => exact wpS_lt' C hk hx hkey h
  | false => exact wpS_bind (wpS_lt' C hk hkey hx (wpS_pure h))
theorem wpS_gal {st : SortSt} {left : Bool} {key : Keyed} {arr : Array Keyed} {base n hint : Nat} {Q : Option Nat → SortSt → Prop} (C : Cmp prog w A s κ Ok R) (hk : kindOf st = κ) (hkey : Ok key) (B : Nat → Bool)
    (hB : ∀ i, i < n → ∃ x, arr[base + i]? = some x ∧ Ok x ∧ farB R left key x = B i) (mono : ∀ i j, i ≤ j → j < n → B j = true → B i = true) (hh : hint < n)
    (h : ∀ k, k ≤ n → (∀ i, i < k → B i = true) → (∀ i, k ≤ i → i < n → B i = false) → Q (some k) st) : wpS (model prog w) A E s (gal' left key arr base n hint) Q st := by
  have look : ∀ i, i < n → ∀ Q' : Option Bool → SortSt → Prop, Q' (some (B i)) st → wpS (model prog w) A E s (far left key arr base i) Q' st := fun i hi Q' q => by
    obtain ⟨x, e, ox, eb⟩ := hB i hi
    exact wpS_far C hk hkey e ox (by rw [eb]; exact q)
  have up : ∀ i j, i ≤ j → j < n → B i = false → B j = false := fun i j hij hj hi => by
    cases z : B j with
    | false => rfl
    | true => rw [mono i j hij hj z] at hi; cases hi
  -- the second half
  have last : ∀ l0 h0 : Nat, l0 ≤ h0 → h0 ≤ n → (∀ i, i < l0 → B i = true) → (∀ i, h0 ≤ i → i < n → B i = false) → wpS (model prog w) A E s (galTail left key arr base n l0 h0) Q st := fun l0 h0 a1 a2 a3 a4 => by
    unfold galTail
    refine wpS_bind (wpS_mono (wpS_forRange (I := fun x c st' => st' = st ∧ ∃ l h, c = (none, l, h) ∧ l ≤ h ∧ h ≤ n ∧ h - l ≤ n - x ∧ (∀ i, i < l → B i = true) ∧ ∀ i, h ≤ i → i < n → B i = false)
      (Q := fun c st' => st' = st ∧ ∃ k, c.1 = none ∧ c.2.2 = k ∧ k ≤ n ∧ (∀ i, i < k → B i = true) ∧ ∀ i, k ≤ i → i < n → B i = false) ?step ?fin ⟨rfl, l0, h0, rfl, a1, a2, by omega, a3, a4⟩) ?post)
    case fin =>
      rintro c st' ⟨rfl, l, h, rfl, b1, b2, b3, b4, b5⟩
      have : l = h := by omega
      subst this
      exact ⟨rfl, l, rfl, rfl, b2, b4, b5⟩
    case step =>
      rintro x c st' _ hx ⟨rfl, l, h, rfl, b1, b2, b3, b4, b5⟩
      dsimp only
      by_cases hge : l ≥ h
      · rw [if_pos hge]
        have : l = h := by omega
        subst this
        exact wpS_pure ⟨rfl, l, rfl, rfl, b2, b4, b5⟩
      · rw [if_neg hge]
        refine wpS_bind (look _ (by omega) _ ?_)
        cases hb : B (l + (h - l) / 2) with
        | true =>
          simp only [if_true]
          exact wpS_pure ⟨rfl, _, _, rfl, by omega, b2, by omega, fun i hi => mono i _ (by omega) (by omega) hb, b5⟩
        | false =>
          simp only [Bool.false_eq_true, if_false]
          exact wpS_pure ⟨rfl, _, _, rfl, by omega, by omega, by omega, b4, fun i hi hn => up _ i hi hn hb⟩
    case post =>
      rintro ⟨c1, c2, c3⟩ st' ⟨rfl, k, e1, e2, b2, b4, b5⟩
      cases e1
      cases e2
      exact wpS_pure (h c3 b2 b4 b5)
  rw [gal'_eq]
  refine wpS_bind (look hint hh _ ?_)
  cases hb : B hint with
  | true =>
    dsimp only
    rw [if_pos rfl]
    refine wpS_bind (wpS_mono (wpS_forRange (I := fun x c st' => st' = st ∧ ∃ la oo, c = (none, la, oo) ∧ la < oo ∧ x < oo ∧ hint + la < n ∧ B (hint + la) = true)
      (Q := fun c st' => st' = st ∧ ∃ la oo, c = (none, la, oo) ∧ la < oo ∧ hint + la < n ∧ B (hint + la) = true ∧ (n - hint ≤ oo ∨ B (hint + oo) = false)) ?step ?fin ⟨rfl, 0, 1, rfl, by omega, by omega, by omega, hb⟩) ?post)
    case fin =>
      rintro c st' ⟨rfl, la, oo, rfl, b1, b2, b3, b4⟩
      exact ⟨rfl, la, oo, rfl, b1, b3, b4, .inl (by omega)⟩
    case step =>
      rintro x c st' _ hx ⟨rfl, la, oo, rfl, b1, b2, b3, b4⟩
      dsimp only
      by_cases hge : oo ≥ n - hint
      · rw [if_pos hge]
        exact wpS_pure ⟨rfl, la, oo, rfl, b1, b3, b4, .inl hge⟩
      · rw [if_neg hge]
        refine wpS_bind (look _ (by omega) _ ?_)
        cases hm : B (hint + oo) with
        | true =>
          simp only [Bool.not_true, Bool.false_eq_true, if_false]
          exact wpS_pure ⟨rfl, _, _, rfl, by omega, by omega, by omega, hm⟩
        | false =>
          simp only [Bool.not_false, if_true]
          exact wpS_pure ⟨rfl, la, oo, rfl, b1, b3, b4, .inr hm⟩
    case post =>
      rintro c st' ⟨rfl, la, oo, rfl, b1, b3, b4, b5⟩
      refine last (hint + la + 1) (hint + min oo (n - hint)) (by omega) (by omega) (fun i hi => mono i _ (by omega) b3 b4) fun i hi hn => ?_
      rcases b5 with b5 | b5
      · omega
      · by_cases z : oo ≤ n - hint
        · exact up (hint + oo) i (by omega) hn b5
        · omega
  | false =>
    dsimp only
    rw [if_neg (by simp)]
    refine wpS_bind (wpS_mono (wpS_forRange (I := fun x c st' => st' = st ∧ ∃ la oo, c = (none, la, oo) ∧ la < oo ∧ x < oo ∧ la ≤ hint ∧ B (hint - la) = false)
      (Q := fun c st' => st' = st ∧ ∃ la oo, c = (none, la, oo) ∧ la < oo ∧ la ≤ hint ∧ B (hint - la) = false ∧ (hint + 1 ≤ oo ∨ (oo ≤ hint ∧ B (hint - oo) = true))) ?step ?fin ⟨rfl, 0, 1, rfl, by omega, by omega, by omega, hb⟩) ?post)
    case fin =>
      rintro c st' ⟨rfl, la, oo, rfl, b1, b2, b3, b4⟩
      exact ⟨rfl, la, oo, rfl, b1, b3, b4, .inl (by omega)⟩
    case step =>
      rintro x c st' _ hx ⟨rfl, la, oo, rfl, b1, b2, b3, b4⟩
      dsimp only
      by_cases hge : oo ≥ hint + 1
      · rw [if_pos hge]
        exact wpS_pure ⟨rfl, la, oo, rfl, b1, b3, b4, .inl hge⟩
      · rw [if_neg hge]
        refine wpS_bind (look _ (by omega) _ ?_)
        cases hm : B (hint - oo) with
        | true =>
          simp only [if_true]
          exact wpS_pure ⟨rfl, la, oo, rfl, b1, b3, b4, .inr ⟨by omega, hm⟩⟩
        | false =>
          simp only [Bool.false_eq_true, if_false]
          exact wpS_pure ⟨rfl, _, _, rfl, by omega, by omega, by omega, hm⟩
    case post =>
      rintro c st' ⟨rfl, la, oo, rfl, b1, b3, b4, b5⟩
      refine last (hint + 1 - min oo (hint + 1)) (hint - la) (by omega) (by omega) (fun i hi => ?_) fun i hi hn => up _ i hi hn b4
      rcases b5 with b5 | ⟨b5, b6⟩
      · omega
      · exact mono i (hint - oo) (by omega) (by omega) b6
end
end TS

set_option Elab.async false
set_option linter.all false
set_option maxRecDepth 100000
namespace TS
open PySem PyProof.Rows
def Le (R : Keyed → Keyed → Bool) (x y : Keyed) : Prop := R y x = false
structure MI (R : Keyed → Keyed → Bool) (T O la lb : List Keyed) : Prop where
  perm : (O ++ la ++ lb).Perm T
  so : O.Pairwise (Le R)
  sa : la.Pairwise (Le R)
  sb : lb.Pairwise (Le R)
  oa : ∀ o ∈ O, ∀ x ∈ la, Le R o x
  ob : ∀ o ∈ O, ∀ y ∈ lb, Le R o y
section
variable {R : Keyed → Keyed → Bool} {T O la lb xs : List Keyed} {x : Keyed}
theorem MI.as (h : MI R T O (xs ++ la) lb) (hx : ∀ x ∈ xs, ∀ y ∈ lb, Le R x y) : MI R T (O ++ xs) la lb := by
  obtain ⟨p, so, sa, sb, oa, ob⟩ := h
  obtain ⟨s1, s2, s3⟩ := List.pairwise_append.mp sa
  refine ⟨by rw [List.append_assoc O xs la]; exact p, List.pairwise_append.mpr ⟨so, s1, fun o ho x hx => oa o ho x (List.mem_append_left _ hx)⟩, s2, sb, fun o ho x hx' => ?_, fun o ho y hy => ?_⟩
  · rcases List.mem_append.mp ho with ho | ho
    · exact oa o ho x (List.mem_append_right _ hx')
    · exact s3 o ho x hx'
  · rcases List.mem_append.mp ho with ho | ho
    · exact ob o ho y hy
    · exact hx o ho y hy
theorem MI.bs (h : MI R T O la (xs ++ lb)) (hx : ∀ y ∈ xs, ∀ x ∈ la, Le R y x) : MI R T (O ++ xs) la lb := by
  obtain ⟨p, so, sa, sb, oa, ob⟩ := h
  obtain ⟨s1, s2, s3⟩ := List.pairwise_append.mp sb
  refine ⟨?_, List.pairwise_append.mpr ⟨so, s1, fun o ho x hx => ob o ho x (List.mem_append_left _ hx)⟩, sa, s2, fun o ho x hx' => ?_, fun o ho y hy => ?_⟩
  · refine List.Perm.trans ?_ p
    rw [List.append_assoc, List.append_assoc, List.append_assoc]
    refine List.Perm.append_left O ?_
    rw [← List.append_assoc, ← List.append_assoc]
    exact List.Perm.append_right lb List.perm_append_comm
  · rcases List.mem_append.mp ho with ho | ho
    · exact oa o ho x hx'
    · exact hx o ho x hx'
  · rcases List.mem_append.mp ho with ho | ho
    · exact ob o ho y (List.mem_append_right _ hy)
    · exact s3 o ho y hy
theorem MI.fin (h : MI R T O la lb) (hx : ∀ x ∈ la, ∀ y ∈ lb, Le R x y) : (O ++ la ++ lb).Perm T ∧ (O ++ la ++ lb).Pairwise (Le R) := by
  refine ⟨h.perm, List.pairwise_append.mpr ⟨List.pairwise_append.mpr ⟨h.so, h.sa, h.oa⟩, h.sb, fun o ho y hy => ?_⟩⟩
  rcases List.mem_append.mp ho with ho | ho
  · exact h.ob o ho y hy
  · exact hx o ho y hy
theorem MI.swap (h : MI R T O la lb) : MI R T O lb la := by
  refine ⟨List.Perm.trans ?_ h.perm, h.so, h.sb, h.sa, h.ob, h.oa⟩
  rw [List.append_assoc, List.append_assoc]
  exact List.Perm.append_left O List.perm_append_comm
theorem MI.fin2 (h : MI R T O la lb) (hx : ∀ y ∈ lb, ∀ x ∈ la, Le R y x) : (O ++ lb ++ la).Perm T ∧ (O ++ lb ++ la).Pairwise (Le R) := h.swap.fin hx
end
def setG' : Nat → StateT SortSt Sem Unit := sortPriv% PySem.Builtin.setMinGallop
abbrev withG (s : SortSt) (g : Nat) : SortSt := SortSt.mk' (kindOf s) (arrOf s) (pendingOf s) g (failedOf s)
theorem setG'_eq (g : Nat) : setG' g = modify fun s => withG s g := rfl
structure SG (st st' : SortSt) : Prop where
  k : kindOf st' = kindOf st
  a : arrOf st' = arrOf st
  p : pendingOf st' = pendingOf st
  f : failedOf st' = failedOf st
theorem SG.refl (st : SortSt) : SG st st := ⟨rfl, rfl, rfl, rfl⟩
theorem SG.g {st st' : SortSt} (h : SG st st') (n : Nat) : SG st (withG st' n) := ⟨h.k, h.a, h.p, h.f⟩
def mlo' : Array Keyed → Array Keyed → StateT SortSt Sem (Array Keyed) := sortPriv% PySem.Builtin.mergeLo
abbrev S1 := Option (Array Keyed) × Array Keyed × Nat × Nat × Nat × Nat
abbrev S2 := Option (Array Keyed) × Array Keyed × Nat × Nat × Nat × Nat × Nat
abbrev eA (a b o : Array Keyed) (i j : Nat) : Array Keyed := o ++ a.extract i a.size ++ b.extract j b.size
abbrev eB (a b o : Array Keyed) (i j : Nat) : Array Keyed := o ++ b.extract j b.size ++ a.extract i a.size
def lo1 (a b : Array Keyed) (g : Nat) (o : Array Keyed) (i j : Nat) : StateT SortSt Sem S1 :=
  forIn [0:a.size + b.size] ((none, o, i, j, 0, 0) : S1) fun _ (_, o, i, j, p, q) => do
    let y ← elem' b j
    let x ← elem' a i
    let r ← lt' y x
    match r with
    | some z =>
      if z then do
        let y ← elem' b j
        if j + 1 == b.size then pure (.done (some (eA a b (o.push y) i (j + 1)), o.push y, i, j + 1, 0, q + 1))
        else if q + 1 ≥ g then pure (.done (none, o.push y, i, j + 1, 0, q + 1))
        else pure (.yield (none, o.push y, i, j + 1, 0, q + 1))
      else do
        let x ← elem' a i
        if i + 1 + 1 == a.size then pure (.done (some (eB a b (o.push x) (i + 1) j), o.push x, i + 1, j, p + 1, 0))
        else if p + 1 ≥ g then pure (.done (none, o.push x, i + 1, j, p + 1, 0))
        else pure (.yield (none, o.push x, i + 1, j, p + 1, 0))
    | _ => pure (.done (some (eA a b o i j), o, i, j, p, q))
def l4 (a b o : Array Keyed) (i j g p q : Nat) : StateT SortSt Sem (ForInStep S2) := do
  let x ← elem' a i
  if i + 1 + 1 == a.size then pure (.done (some (eB a b (o.push x) (i + 1) j), o.push x, i + 1, j, g, p, q))
  else if decide (p < 7) && decide (q < 7) then pure (.done (none, o.push x, i + 1, j, g, p, q))
  else pure (.yield (none, o.push x, i + 1, j, g, p, q))
def l3 (a b o : Array Keyed) (i j g p q : Nat) : StateT SortSt Sem (ForInStep S2) := do
  let x ← elem' a i
  let r ← gal' true x b j (b.size - j) 0
  match r with
  | some k =>
    if k > 0 then
      if j + k == b.size then pure (.done (some (eA a b (o ++ b.extract j (j + k)) i (j + k)), o ++ b.extract j (j + k), i, j + k, g, p, k))
      else l4 a b (o ++ b.extract j (j + k)) i (j + k) g p k
    else l4 a b o i j g p k
  | _ => pure (.done (some (eA a b o i j), o, i, j, g, p, q))
def l2 (a b o : Array Keyed) (i j g p q : Nat) : StateT SortSt Sem (ForInStep S2) := do
  let y ← elem' b j
  if j + 1 == b.size then pure (.done (some (eA a b (o.push y) i (j + 1)), o.push y, i, j + 1, g, p, q))
  else l3 a b (o.push y) i (j + 1) g p q
def l1 (a b o : Array Keyed) (i j g p q : Nat) : StateT SortSt Sem (ForInStep S2) := do
  setG' g
  let y ← elem' b j
  let r ← gal' false y a i (a.size - i) 0
  match r with
  | some k =>
    if k > 0 then
      if i + k + 1 == a.size then pure (.done (some (eB a b (o ++ a.extract i (i + k)) (i + k) j), o ++ a.extract i (i + k), i + k, j, g, k, q))
      else if i + k == a.size then pure (.done (some (eA a b (o ++ a.extract i (i + k)) (i + k) j), o ++ a.extract i (i + k), i + k, j, g, k, q))
      else l2 a b (o ++ a.extract i (i + k)) (i + k) j g k q
    else l2 a b o i j g k q
  | _ => pure (.done (some (eA a b o i j), o, i, j, g, p, q))
def lo2 (a b : Array Keyed) (o : Array Keyed) (i j g p q : Nat) : StateT SortSt Sem S2 :=
  forIn [0:a.size + b.size] ((none, o, i, j, g, p, q) : S2) fun _ (_, o, i, j, g, p, q) =>
    if g > 1 then l1 a b o i j (g - 1) p q else l1 a b o i j g p q
abbrev S3 := Option (Array Keyed) × Array Keyed × Nat × Nat × Nat
theorem mlo'_eq0 (a b : Array Keyed) : mlo' a b = (do
  liftM (rule "list.sort.merge-lo")
  let mut o : Array Keyed := #[← elem' b 0]
  let mut i := 0
  let mut j := 1
  if j == b.size then return eA a b o i j
  if i + 1 == a.size then return eB a b o i j
  let mut g := gallopOf (← get)
  for _ in [0:a.size + b.size] do
    let mut p := 0
    let mut q := 0
    for _ in [0:a.size + b.size] do
      let some z ← lt' (← elem' b j) (← elem' a i) | return eA a b o i j
      if z then
        o := o.push (← elem' b j); j := j + 1; q := q + 1; p := 0
        if j == b.size then return eA a b o i j
        if q ≥ g then break
      else
        o := o.push (← elem' a i); i := i + 1; p := p + 1; q := 0
        if i + 1 == a.size then return eB a b o i j
        if p ≥ g then break
    liftM (rule "list.sort.gallop")
    g := g + 1
    for _ in [0:a.size + b.size] do
      if g > 1 then g := g - 1
      setG' g
      let some k ← gal' false (← elem' b j) a i (a.size - i) 0 | return eA a b o i j
      p := k
      if k > 0 then
        o := o ++ a.extract i (i + k); i := i + k
        if i + 1 == a.size then return eB a b o i j
        if i == a.size then return eA a b o i j
      o := o.push (← elem' b j); j := j + 1
      if j == b.size then return eA a b o i j
      let some k ← gal' true (← elem' a i) b j (b.size - j) 0 | return eA a b o i j
      q := k
      if k > 0 then
        o := o ++ b.extract j (j + k); j := j + k
        if j == b.size then return eA a b o i j
      o := o.push (← elem' a i); i := i + 1
      if i + 1 == a.size then return eB a b o i j
      if p < 7 && q < 7 then break
    g := g + 1
    setG' g
  liftM (m := Sem) (unsupported "internal:list.sort.merge-bound")) := rfl
theorem mlo'_eq (a b : Array Keyed) : mlo' a b = (do
  liftM (rule "list.sort.merge-lo")
  let y ← elem' b 0
  if 1 == b.size then pure (eA a b #[y] 0 1)
  else if 0 + 1 == a.size then pure (eB a b #[y] 0 1)
  else do
    let st ← get
    let c ← (forIn [0:a.size + b.size] ((none, #[y], 0, 1, gallopOf st) : S3) fun _ (_, o, i, j, g) => do
      let c ← lo1 a b g o i j
      match c.1 with
      | some r => pure (.done (some r, c.2.1, c.2.2.1, c.2.2.2.1, g))
      | none => do
        liftM (rule "list.sort.gallop")
        let d ← lo2 a b c.2.1 c.2.2.1 c.2.2.2.1 (g + 1) c.2.2.2.2.1 c.2.2.2.2.2
        match d.1 with
        | some r => pure (.done (some r, d.2.1, d.2.2.1, d.2.2.2.1, d.2.2.2.2.1))
        | none => do
          setG' (d.2.2.2.2.1 + 1)
          pure (.yield (none, d.2.1, d.2.2.1, d.2.2.2.1, d.2.2.2.2.1 + 1)))
    match c.1 with
    | some r => pure r
    | none => liftM (m := Sem) (unsupported "internal:list.sort.merge-bound")) := by
  rw [mlo'_eq0]
  unfold lo2
  congr 1
  funext _
  congr 1
  funext y
  dsimp only
  congr 1
  congr 1
  congr 1
  funext st
  refine congrArg (fun m => m >>= _) ?_ |>.trans (congrArg (fun f => _ >>= f) ?_)
  · congr 1
    funext x c
    obtain ⟨c0, o, i, j, g⟩ := c
    dsimp only
    refine congrArg (fun f => lo1 a b g o i j >>= f) ?_
    funext c
    obtain ⟨r, o, i, j, p, q⟩ := c
    cases r with
    | some r => rfl
    | none =>
      dsimp only
      congr 1
      funext _
      refine congrArg (fun m => m >>= _) ?_ |>.trans (congrArg (fun f => _ >>= f) ?_)
      · congr 1
      · funext d
        obtain ⟨r, o, i, j, g, p, q⟩ := d
        cases r <;> rfl
  · funext d
    obtain ⟨r, o, i, j, g⟩ := d
    cases r <;> rfl
end TS

set_option Elab.async false
set_option linter.all false
set_option maxRecDepth 100000
namespace TS
open PySem PyProof.Rows
theorem ext_all (a : Array Keyed) (i : Nat) : (a.extract i a.size).toList = a.toList.drop i := by
  rw [Array.toList_extract, List.extract_eq_take_drop, List.take_of_length_le (by rw [List.length_drop, Array.length_toList]; omega)]
theorem ext_some (a : Array Keyed) (i k : Nat) : (a.extract i (i + k)).toList = (a.toList.drop i).take k := by
  rw [Array.toList_extract, List.extract_eq_take_drop, Nat.add_sub_cancel_left]
theorem eA_list (a b o : Array Keyed) (i j : Nat) : (eA a b o i j).toList = o.toList ++ a.toList.drop i ++ b.toList.drop j := by
  show (o ++ a.extract i a.size ++ b.extract j b.size).toList = _
  rw [Array.toList_append, Array.toList_append, ext_all, ext_all]
theorem eB_list (a b o : Array Keyed) (i j : Nat) : (eB a b o i j).toList = o.toList ++ b.toList.drop j ++ a.toList.drop i := by
  show (o ++ b.extract j b.size ++ a.extract i a.size).toList = _
  rw [Array.toList_append, Array.toList_append, ext_all, ext_all]
theorem at_drop {a : Array Keyed} {i : Nat} (h : i < a.size) : ∃ x, a[i]? = some x ∧ a.toList.drop i = x :: a.toList.drop (i + 1) ∧ x ∈ a.toList := by
  have h' : i < a.toList.length := by rw [Array.length_toList]; exact h
  refine ⟨a[i], by rw [Array.getElem?_eq_getElem h], ?_, by rw [← Array.getElem_toList]; exact List.getElem_mem h'⟩
  rw [List.drop_eq_getElem_cons h', Array.getElem_toList]
def Good (R : Keyed → Keyed → Bool) (T : List Keyed) (m : Array Keyed) : Prop := m.toList.Perm T ∧ m.toList.Pairwise (Le R)
structure MH (Ok : Keyed → Prop) (R : Keyed → Keyed → Bool) (a b : Array Keyed) : Prop where
  oa : ∀ x ∈ a.toList, Ok x
  ob : ∀ y ∈ b.toList, Ok y
  sa : a.toList.Pairwise (Le R)
  sb : b.toList.Pairwise (Le R)
def GG (R : Keyed → Keyed → Bool) (a b : Array Keyed) (T : List Keyed) (N : Nat) (o : Array Keyed) (i j : Nat) : Prop := MI R T o.toList (a.toList.drop i) (b.toList.drop j) ∧ i + 1 < a.size ∧ j < b.size ∧ N ≤ i + j
structure KQ (R : Keyed → Keyed → Bool) (a b : Array Keyed) (T : List Keyed) (N : Nat) (Q : ForInStep S2 → SortSt → Prop) (st0 : SortSt) : Prop where
  fin : ∀ m c st', SG st0 st' → Good R T m → Q (.done (some m, c)) st'
  stop : ∀ o i j g p q st', SG st0 st' → GG R a b T N o i j → Q (.done (none, o, i, j, g, p, q)) st'
  go : ∀ o i j g p q st', SG st0 st' → GG R a b T N o i j → Q (.yield (none, o, i, j, g, p, q)) st'
section
variable {prog : Program} {w : World} {A : Around} {E : Value → Shared → Prop} {s : Shared} {κ : SortKind} {Ok : Keyed → Prop} {R : Keyed → Keyed → Bool} {a b : Array Keyed} {T : List Keyed} {N : Nat} {Q : ForInStep S2 → SortSt → Prop} {st0 st : SortSt} {o : Array Keyed} {i j g p q : Nat}
theorem good_A (h : MI R T o.toList (a.toList.drop i) (b.toList.drop j)) (he : b.size ≤ j ∨ a.size ≤ i) : Good R T (eA a b o i j) := by
  unfold Good
  rw [eA_list]
  refine h.fin fun x hx y hy => ?_
  rcases he with he | he
  · rw [List.drop_of_length_le (by rw [Array.length_toList]; exact he)] at hy; cases hy
  · rw [List.drop_of_length_le (by rw [Array.length_toList]; exact he)] at hx; cases hx
theorem good_B (h : MI R T o.toList (a.toList.drop i) (b.toList.drop j)) (he : i + 1 = a.size) (hl : ∀ x, a.toList.getLast? = some x → ∀ y ∈ b.toList, Le R y x) : Good R T (eB a b o i j) := by
  unfold Good
  rw [eB_list]
  refine h.fin2 fun y hy x hx => ?_
  obtain ⟨z, e1, e2, _⟩ := at_drop (a := a) (i := i) (by omega)
  rw [e2, List.drop_of_length_le (by rw [Array.length_toList]; omega), List.mem_singleton] at hx
  subst hx
  refine hl x ?_ y (List.mem_of_mem_drop hy)
  rw [List.getLast?_eq_getElem?, Array.length_toList, show a.size - 1 = i by omega, Array.getElem?_toList]
  exact e1
theorem push_list (o : Array Keyed) (x : Keyed) : (o.push x).toList = o.toList ++ [x] := Array.toList_push
theorem wpS_l4 (hl : ∀ x, a.toList.getLast? = some x → ∀ y ∈ b.toList, Le R y x) (K : KQ R a b T N Q st0) (hs : SG st0 st) (h : MI R T o.toList (a.toList.drop i) (b.toList.drop j)) (hi : i + 1 < a.size) (hj : j < b.size) (hN : N ≤ i + j)
    (hx : ∀ x, a[i]? = some x → ∀ y ∈ b.toList.drop j, Le R x y) : wpS (model prog w) A E s (l4 a b o i j g p q) Q st := by
  obtain ⟨x, e1, e2, _⟩ := at_drop (a := a) (i := i) (by omega)
  unfold l4
  refine wpS_bind (wpS_elem e1 ?_)
  rw [e2] at h
  have h' : MI R T (o.push x).toList (a.toList.drop (i + 1)) (b.toList.drop j) := by
    rw [push_list]
    exact MI.as (xs := [x]) h fun z hz y hy => by rw [List.mem_singleton.mp hz]; exact hx x e1 y hy
  by_cases z : i + 1 + 1 = a.size
  · rw [if_pos (by simpa using z)]
    exact wpS_pure (K.fin _ _ _ hs (good_B h' z hl))
  · rw [if_neg (by simpa using z)]
    have G : GG R a b T N (o.push x) (i + 1) j := ⟨h', by omega, hj, by omega⟩
    by_cases z2 : (decide (p < 7) && decide (q < 7)) = true
    · rw [if_pos z2]; exact wpS_pure (K.stop _ _ _ _ _ _ _ hs G)
    · rw [if_neg z2]; exact wpS_pure (K.go _ _ _ _ _ _ _ hs G)
theorem mem_take_at {l : List Keyed} {k : Nat} {x : Keyed} (h : x ∈ l.take k) : ∃ i, i < k ∧ l[i]? = some x := by
  obtain ⟨i, hi, e⟩ := List.getElem_of_mem h
  have h1 : i < k := by rw [List.length_take] at hi; omega
  refine ⟨i, h1, ?_⟩
  rw [← e, List.getElem_take, List.getElem?_eq_getElem]
theorem mem_drop_at {l : List Keyed} {k : Nat} {x : Keyed} (h : x ∈ l.drop k) : ∃ i, k ≤ i ∧ l[i]? = some x := by
  obtain ⟨i, hi, e⟩ := List.getElem_of_mem h
  refine ⟨k + i, by omega, ?_⟩
  rw [← e, List.getElem_drop, List.getElem?_eq_getElem]
theorem pw_at {l : List Keyed} (h : l.Pairwise (Le R)) {i j : Nat} {x y : Keyed} (hij : i < j) (hx : l[i]? = some x) (hy : l[j]? = some y) : Le R x y := by
  obtain ⟨h1, e1⟩ := List.getElem?_eq_some_iff.mp hx
  obtain ⟨h2, e2⟩ := List.getElem?_eq_some_iff.mp hy
  have := List.pairwise_iff_getElem.mp h i j h1 h2 hij
  rw [e1, e2] at this
  exact this
theorem wpS_galS {left : Bool} {key : Keyed} {c : Array Keyed} {d n hint : Nat} {Q : Option Nat → SortSt → Prop} (C : Cmp prog w A s κ Ok R) (hk : kindOf st = κ) (hkey : Ok key) (oc : ∀ x ∈ c.toList, Ok x) (hd : d + n ≤ c.size)
    (sc : ∀ i j x y, d ≤ i → i < j → j < d + n → c[i]? = some x → c[j]? = some y → Le R x y) (hh : hint < n)
    (h : ∀ k, k ≤ n → (∀ x ∈ (c.toList.drop d).take k, farB R left key x = true) → (∀ x ∈ ((c.toList.drop d).take n).drop k, farB R left key x = false) → Q (some k) st) : wpS (model prog w) A E s (gal' left key c d n hint) Q st := by
  have here : ∀ i, i < n → ∃ x, c[d + i]? = some x ∧ Ok x := fun i hi => by
    obtain ⟨x, e, _, hx⟩ := at_drop (a := c) (i := d + i) (by omega)
    exact ⟨x, e, oc x hx⟩
  refine wpS_gal (n := n) C hk hkey (fun i => ((c[d + i]?).map (farB R left key)).getD false) (fun i hi => ?_) (fun i j hij hj hb => ?_) hh fun k hk1 hk2 hk3 => ?_
  · obtain ⟨x, e, ox⟩ := here i hi
    exact ⟨x, e, ox, by rw [e]; rfl⟩
  · obtain ⟨x, ex, ox⟩ := here i (by omega)
    obtain ⟨y, ey, oy⟩ := here j hj
    simp only [ex, ey, Option.map_some, Option.getD_some] at hb ⊢
    by_cases z : i = j
    · subst z; rw [ex] at ey; cases ey; exact hb
    have l := sc (d + i) (d + j) x y (by omega) (by omega) (by omega) ex ey
    unfold farB at hb ⊢
    cases left with
    | true =>
      simp only [if_true] at hb ⊢
      cases hxk : R x key with
      | true => rfl
      | false =>
        have := C.tr key x y hkey ox oy hxk l
        rw [hb] at this; cases this
    | false =>
      simp only [Bool.false_eq_true, if_false] at hb ⊢
      have hb' : R key y = false := by simpa using hb
      have := C.tr x y key ox oy hkey l hb'
      rw [this]; rfl
  · refine h k hk1 (fun x hx => ?_) fun x hx => ?_
    · obtain ⟨i, hi, e⟩ := mem_take_at hx
      rw [List.getElem?_drop, Array.getElem?_toList] at e
      have := hk2 i hi
      simp only [e, Option.map_some, Option.getD_some] at this
      exact this
    · obtain ⟨i, hi, e⟩ := mem_drop_at hx
      have hin : i < n := by
        have := (List.getElem?_eq_some_iff.mp e).1
        rw [List.length_take] at this
        omega
      rw [List.getElem?_take, if_pos hin, List.getElem?_drop, Array.getElem?_toList] at e
      have := hk3 i hi hin
      simp only [e, Option.map_some, Option.getD_some] at this
      exact this
end
end TS

set_option Elab.async false
set_option linter.all false
set_option maxRecDepth 100000
namespace TS
open PySem PyProof.Rows
section
variable {prog : Program} {w : World} {A : Around} {E : Value → Shared → Prop} {s : Shared} {κ : SortKind} {Ok : Keyed → Prop} {R : Keyed → Keyed → Bool} {a b : Array Keyed} {T : List Keyed} {N : Nat} {Q : ForInStep S2 → SortSt → Prop} {st0 st : SortSt} {o : Array Keyed} {i j g p q : Nat}
theorem sorted_at {c : Array Keyed} (h : c.toList.Pairwise (Le R)) {i j : Nat} {x y : Keyed} (hij : i < j) (hx : c[i]? = some x) (hy : c[j]? = some y) : Le R x y := pw_at h hij (by rw [Array.getElem?_toList]; exact hx) (by rw [Array.getElem?_toList]; exact hy)
theorem drop_split {c : Array Keyed} {d k : Nat} : c.toList.drop d = (c.toList.drop d).take k ++ c.toList.drop (d + k) := by
  rw [← List.drop_drop, List.take_append_drop]
theorem rest_split {c : Array Keyed} {d k : Nat} {x : Keyed} (hx : x ∈ c.toList.drop (d + k)) : x ∈ ((c.toList.drop d).take (c.size - d)).drop k := by
  rw [List.take_of_length_le (by rw [List.length_drop, Array.length_toList]; omega), List.drop_drop]
  exact hx
theorem ok_at {c : Array Keyed} (h : ∀ x ∈ c.toList, Ok x) {i : Nat} {x : Keyed} (e : c[i]? = some x) : Ok x := h x (by rw [← Array.getElem?_toList] at e; exact List.mem_of_getElem? e)
theorem ok_drop {c : Array Keyed} (h : ∀ x ∈ c.toList, Ok x) {d : Nat} {x : Keyed} (e : x ∈ c.toList.drop d) : Ok x := h x (List.mem_of_mem_drop e)
theorem wpS_l3 (C : Cmp prog w A s κ Ok R) (M : MH Ok R a b) (hk0 : kindOf st0 = κ) (hl : ∀ x, a.toList.getLast? = some x → ∀ y ∈ b.toList, Le R y x) (K : KQ R a b T N Q st0) (hs : SG st0 st) (h : MI R T o.toList (a.toList.drop i) (b.toList.drop j)) (hi : i + 1 < a.size) (hj : j < b.size) (hN : N ≤ i + j) :
    wpS (model prog w) A E s (l3 a b o i j g p q) Q st := by
  obtain ⟨x, e1, e2, mx⟩ := at_drop (a := a) (i := i) (by omega)
  have ox := M.oa x mx
  unfold l3
  refine wpS_bind (wpS_elem e1 ?_)
  refine wpS_bind (wpS_galS (d := j) (n := b.size - j) (hint := 0) C (hs.k.trans hk0) ox M.ob (by omega) (fun i j x y _ hij _ hx hy => sorted_at M.sb hij hx hy) (by omega) fun k hkn h1 h2 => ?_)
  dsimp only
  have hrest : ∀ y ∈ b.toList.drop (j + k), Le R x y := fun y hy => by
    have := h2 y (rest_split hy)
    unfold farB at this
    show R y x = false
    simpa using this
  have hah : ∀ y ∈ (b.toList.drop j).take k, ∀ z ∈ a.toList.drop i, Le R y z := fun y hy z hz => by
    have t := h1 y hy
    unfold farB at t
    have t' : R y x = true := by simpa using t
    have oy := ok_drop M.ob (List.mem_of_mem_take hy)
    have l1 : Le R y x := C.as y x oy ox t'
    rw [e2] at hz
    rcases List.mem_cons.mp hz with rfl | hz'
    · exact l1
    · have sa := M.sa.sublist (List.drop_sublist i _)
      rw [e2] at sa
      exact C.tr y x z oy ox (ok_drop M.oa hz') l1 ((List.pairwise_cons.mp sa).1 z hz')
  have hx4 : ∀ {j' : Nat}, (∀ y ∈ b.toList.drop j', Le R x y) → ∀ x', a[i]? = some x' → ∀ y ∈ b.toList.drop j', Le R x' y := fun {j'} hh x' e y hy => by
    rw [e1] at e; cases e; exact hh y hy
  by_cases z : k > 0
  · rw [if_pos z]
    have h' : MI R T (o ++ b.extract j (j + k)).toList (a.toList.drop i) (b.toList.drop (j + k)) := by
      rw [Array.toList_append, ext_some]
      rw [drop_split (c := b) (d := j) (k := k)] at h
      exact h.bs hah
    by_cases z2 : j + k = b.size
    · rw [if_pos (by simpa using z2)]
      exact wpS_pure (K.fin _ _ _ hs (good_A h' (.inl (by omega))))
    · rw [if_neg (by simpa using z2)]
      exact wpS_l4 hl K hs h' hi (by omega) (by omega) (hx4 hrest)
  · rw [if_neg z]
    have k0 : k = 0 := by omega
    subst k0
    exact wpS_l4 hl K hs h hi hj hN (hx4 hrest)
theorem wpS_l2 (C : Cmp prog w A s κ Ok R) (M : MH Ok R a b) (hk0 : kindOf st0 = κ) (hl : ∀ x, a.toList.getLast? = some x → ∀ y ∈ b.toList, Le R y x) (K : KQ R a b T N Q st0) (hs : SG st0 st) (h : MI R T o.toList (a.toList.drop i) (b.toList.drop j)) (hi : i + 1 < a.size) (hj : j < b.size) (hN : N ≤ i + j)
    (hy : ∀ y, b[j]? = some y → ∀ x ∈ a.toList.drop i, Le R y x) : wpS (model prog w) A E s (l2 a b o i j g p q) Q st := by
  obtain ⟨y, e1, e2, _⟩ := at_drop (a := b) (i := j) hj
  unfold l2
  refine wpS_bind (wpS_elem e1 ?_)
  rw [e2] at h
  have h' : MI R T (o.push y).toList (a.toList.drop i) (b.toList.drop (j + 1)) := by
    rw [push_list]
    exact MI.bs (xs := [y]) h fun z hz x hx => by rw [List.mem_singleton.mp hz]; exact hy y e1 x hx
  by_cases z : j + 1 = b.size
  · rw [if_pos (by simpa using z)]
    exact wpS_pure (K.fin _ _ _ hs (good_A h' (.inl (by omega))))
  · rw [if_neg (by simpa using z)]
    exact wpS_l3 C M hk0 hl K hs h' hi (by omega) (by omega)
theorem wpS_l1 (C : Cmp prog w A s κ Ok R) (M : MH Ok R a b) (hk0 : kindOf st0 = κ) (hl : ∀ x, a.toList.getLast? = some x → ∀ y ∈ b.toList, Le R y x) (K : KQ R a b T N Q st0) (hs : SG st0 st) (h : GG R a b T N o i j) : wpS (model prog w) A E s (l1 a b o i j g p q) Q st := by
  obtain ⟨h, hi, hj, hN⟩ := h
  obtain ⟨y, e1, e2, my⟩ := at_drop (a := b) (i := j) hj
  have oy := M.ob y my
  unfold l1
  rw [setG'_eq]
  refine wpS_bind (wpS_modify ?_)
  have hs' := hs.g g
  refine wpS_bind (wpS_elem e1 ?_)
  refine wpS_bind (wpS_galS (d := i) (n := a.size - i) (hint := 0) C (hs'.k.trans hk0) oy M.oa (by omega) (fun i j x y _ hij _ hx hy => sorted_at M.sa hij hx hy) (by omega) fun k hkn h1 h2 => ?_)
  dsimp only
  have hrest : ∀ x ∈ a.toList.drop (i + k), Le R y x := fun x hx => by
    have := h2 x (rest_split hx)
    unfold farB at this
    have t : R y x = true := by simpa using this
    exact C.as y x oy (ok_drop M.oa hx) t
  have hah : ∀ x ∈ (a.toList.drop i).take k, ∀ z ∈ b.toList.drop j, Le R x z := fun x hx z hz => by
    have t := h1 x hx
    unfold farB at t
    have l1 : Le R x y := by
      show R y x = false
      simpa using t
    have ox := ok_drop M.oa (List.mem_of_mem_take hx)
    rw [e2] at hz
    rcases List.mem_cons.mp hz with rfl | hz'
    · exact l1
    · have sb := M.sb.sublist (List.drop_sublist j _)
      rw [e2] at sb
      exact C.tr x y z ox oy (ok_drop M.ob hz') l1 ((List.pairwise_cons.mp sb).1 z hz')
  have hy2 : ∀ {i' : Nat}, (∀ x ∈ a.toList.drop i', Le R y x) → ∀ y', b[j]? = some y' → ∀ x ∈ a.toList.drop i', Le R y' x := fun {i'} hh y' e x hx => by
    rw [e1] at e; cases e; exact hh x hx
  by_cases z : k > 0
  · rw [if_pos z]
    have h' : MI R T (o ++ a.extract i (i + k)).toList (a.toList.drop (i + k)) (b.toList.drop j) := by
      rw [Array.toList_append, ext_some]
      rw [drop_split (c := a) (d := i) (k := k)] at h
      exact h.as hah
    by_cases z2 : i + k + 1 = a.size
    · rw [if_pos (by simpa using z2)]
      exact wpS_pure (K.fin _ _ _ hs' (good_B h' z2 hl))
    · rw [if_neg (by simpa using z2)]
      by_cases z3 : i + k = a.size
      · rw [if_pos (by simpa using z3)]
        exact wpS_pure (K.fin _ _ _ hs' (good_A h' (.inr (by omega))))
      · rw [if_neg (by simpa using z3)]
        exact wpS_l2 C M hk0 hl K hs' h' (by omega) hj (by omega) (hy2 hrest)
  · rw [if_neg z]
    have k0 : k = 0 := by omega
    subst k0
    exact wpS_l2 C M hk0 hl K hs' h hi hj hN (hy2 hrest)
theorem wpS_lo2 {Q : S2 → SortSt → Prop} (C : Cmp prog w A s κ Ok R) (M : MH Ok R a b) (hk0 : kindOf st0 = κ) (hl : ∀ x, a.toList.getLast? = some x → ∀ y ∈ b.toList, Le R y x) (hs : SG st0 st) (h : GG R a b T N o i j)
    (hf : ∀ m c st', SG st0 st' → Good R T m → Q (some m, c) st') (hd : ∀ o i j g p q st', SG st0 st' → GG R a b T N o i j → Q (none, o, i, j, g, p, q) st') : wpS (model prog w) A E s (lo2 a b o i j g p q) Q st := by
  unfold lo2
  refine wpS_forRange (I := fun _ c st' => SG st0 st' ∧ ∃ o i j g p q, c = (none, o, i, j, g, p, q) ∧ GG R a b T N o i j) ?step ?fin ⟨hs, _, _, _, _, _, _, rfl, h⟩
  case fin =>
    rintro c st' ⟨hs', o, i, j, g, p, q, rfl, h'⟩
    exact hd _ _ _ _ _ _ _ hs' h'
  case step =>
    rintro x c st' _ _ ⟨hs', o, i, j, g, p, q, rfl, h'⟩
    have K : KQ R a b T N (fun r st' => match r with | .done c' => Q c' st' | .yield c' => SG st0 st' ∧ ∃ o i j g p q, c' = (none, o, i, j, g, p, q) ∧ GG R a b T N o i j) st0 :=
      ⟨fun m c st' a b => hf m c st' a b, fun o i j g p q st' a b => hd o i j g p q st' a b, fun o i j g p q st' a b => ⟨a, _, _, _, _, _, _, rfl, b⟩⟩
    dsimp only
    split
    · exact wpS_l1 C M hk0 hl ⟨K.fin, K.stop, K.go⟩ hs' h'
    · exact wpS_l1 C M hk0 hl ⟨K.fin, K.stop, K.go⟩ hs' h'
theorem wpS_lo1 {Q : S1 → SortSt → Prop} (C : Cmp prog w A s κ Ok R) (M : MH Ok R a b) (hk0 : kindOf st = κ) (hl : ∀ x, a.toList.getLast? = some x → ∀ y ∈ b.toList, Le R y x) (h : GG R a b T N o i j)
    (hf : ∀ m c, Good R T m → Q (some m, c) st) (hd : ∀ o i j p q, GG R a b T (N + 1) o i j → Q (none, o, i, j, p, q) st) : wpS (model prog w) A E s (lo1 a b g o i j) Q st := by
  unfold lo1
  refine wpS_forRange (I := fun x c st' => st' = st ∧ ∃ o i j p q, c = (none, o, i, j, p, q) ∧ GG R a b T (N + x) o i j) ?step ?fin ⟨rfl, _, _, _, _, _, rfl, h⟩
  case fin =>
    rintro c st' ⟨rfl, o, i, j, p, q, rfl, h1, h2, h3, h4⟩
    omega
  case step =>
    rintro x c st' _ hx ⟨rfl, o, i, j, p, q, rfl, h1, h2, h3, h4⟩
    dsimp only
    obtain ⟨xa, e1, e2, mx⟩ := at_drop (a := a) (i := i) (by omega)
    obtain ⟨yb, f1, f2, my⟩ := at_drop (a := b) (i := j) h3
    have ox := M.oa xa mx
    have oy := M.ob yb my
    refine wpS_bind (wpS_elem f1 (wpS_bind (wpS_elem e1 (wpS_bind (wpS_lt' C hk0 oy ox ?_)))))
    dsimp only
    have sa := M.sa.sublist (List.drop_sublist i _)
    have sb := M.sb.sublist (List.drop_sublist j _)
    rw [e2] at sa
    rw [f2] at sb
    cases hz : R yb xa with
    | true =>
      rw [if_pos rfl]
      refine wpS_bind (wpS_elem f1 ?_)
      have l1 : Le R yb xa := C.as yb xa oy ox hz
      have h' : MI R T (o.push yb).toList (a.toList.drop i) (b.toList.drop (j + 1)) := by
        rw [push_list]
        rw [f2] at h1
        refine MI.bs (xs := [yb]) h1 fun z hz x hx => ?_
        rw [List.mem_singleton.mp hz]
        rw [e2] at hx
        rcases List.mem_cons.mp hx with rfl | hx'
        · exact l1
        · exact C.tr yb xa x oy ox (ok_drop M.oa hx') l1 ((List.pairwise_cons.mp sa).1 x hx')
      by_cases z : j + 1 = b.size
      · rw [if_pos (by simpa using z)]
        exact wpS_pure (hf _ _ (good_A h' (.inl (by omega))))
      · rw [if_neg (by simpa using z)]
        split
        · exact wpS_pure (hd _ _ _ _ _ ⟨h', h2, by omega, by omega⟩)
        · exact wpS_pure ⟨rfl, _, _, _, _, _, rfl, h', h2, by omega, by omega⟩
    | false =>
      rw [if_neg (by simp)]
      refine wpS_bind (wpS_elem e1 ?_)
      have h' : MI R T (o.push xa).toList (a.toList.drop (i + 1)) (b.toList.drop j) := by
        rw [push_list]
        rw [e2] at h1
        refine MI.as (xs := [xa]) h1 fun z hz' y hy => ?_
        rw [List.mem_singleton.mp hz']
        rw [f2] at hy
        rcases List.mem_cons.mp hy with rfl | hy'
        · exact hz
        · exact C.tr xa yb y ox oy (ok_drop M.ob hy') hz ((List.pairwise_cons.mp sb).1 y hy')
      by_cases z : i + 1 + 1 = a.size
      · rw [if_pos (by simpa using z)]
        exact wpS_pure (hf _ _ (good_B h' z hl))
      · rw [if_neg (by simpa using z)]
        split
        · exact wpS_pure (hd _ _ _ _ _ ⟨h', by omega, h3, by omega⟩)
        · exact wpS_pure ⟨rfl, _, _, _, _, _, rfl, h', by omega, h3, by omega⟩
theorem wpS_mlo {Q : Array Keyed → SortSt → Prop} (C : Cmp prog w A s κ Ok R) (M : MH Ok R a b) (hk0 : kindOf st = κ) (hl : ∀ x, a.toList.getLast? = some x → ∀ y ∈ b.toList, Le R y x) (hb : 0 < b.size) (ha : 0 < a.size)
    (h0 : ∀ y, b[0]? = some y → ∀ x ∈ a.toList, Le R y x) (h : ∀ m st', SG st st' → Good R (a.toList ++ b.toList) m → Q m st') : wpS (model prog w) A E s (mlo' a b) Q st := by
  rw [mlo'_eq]
  refine wpS_bind (wpS_lift (wpAny_rule ⟨rfl, ?_⟩))
  obtain ⟨y, e1, e2, _⟩ := at_drop (a := b) (i := 0) hb
  refine wpS_bind (wpS_elem e1 ?_)
  rw [List.drop_zero] at e2
  have hM : MI R (a.toList ++ b.toList) (#[y] : Array Keyed).toList (a.toList.drop 0) (b.toList.drop 1) := by
    have base : MI R (a.toList ++ b.toList) [] a.toList b.toList := ⟨by rw [List.nil_append], List.Pairwise.nil, M.sa, M.sb, (fun o ho => by cases ho), (fun o ho => by cases ho)⟩
    rw [e2] at base
    rw [← e2] at base
    have b2 : MI R (a.toList ++ b.toList) [] a.toList ([y] ++ b.toList.drop 1) := by
      have e3 : [y] ++ b.toList.drop 1 = b.toList := e2.symm
      rw [e3]; exact base
    exact MI.bs (xs := [y]) b2 fun z hz x hx => by rw [List.mem_singleton.mp hz]; exact h0 y e1 x hx
  by_cases z : 1 = b.size
  · rw [if_pos (by simpa using z)]
    exact wpS_pure (h _ _ (SG.refl st) (good_A hM (.inl (by omega))))
  rw [if_neg (by simpa using z)]
  by_cases z1 : 0 + 1 = a.size
  · rw [if_pos (by simpa using z1)]
    exact wpS_pure (h _ _ (SG.refl st) (good_B hM z1 hl))
  rw [if_neg (by simpa using z1)]
  refine wpS_bind (wpS_get ?_)
  refine wpS_bind (wpS_mono (wpS_forRange (I := fun x c st' => SG st st' ∧ ∃ o i j g, c = (none, o, i, j, g) ∧ GG R a b (a.toList ++ b.toList) x o i j)
    (Q := fun c st' => SG st st' ∧ ∃ m, c.1 = some m ∧ Good R (a.toList ++ b.toList) m) ?step ?fin ⟨SG.refl st, _, _, _, _, rfl, hM, by omega, by omega, by omega⟩) ?post)
  case fin =>
    rintro c st' ⟨hs, o, i, j, g, rfl, h1, h2, h3, h4⟩
    omega
  case post =>
    rintro ⟨c1, c2⟩ st' ⟨hs, m, e, hm⟩
    cases e
    exact wpS_pure (h m st' hs hm)
  case step =>
    rintro x c st' _ hx ⟨hs, o, i, j, g, rfl, hG⟩
    dsimp only
    refine wpS_bind (wpS_lo1 C M (hs.k.trans hk0) hl hG (fun m c hm => ?_) fun o i j p q hG' => ?_)
    · exact wpS_pure ⟨hs, m, rfl, hm⟩
    · dsimp only
      refine wpS_bind (wpS_lift (wpAny_rule ⟨rfl, ?_⟩))
      refine wpS_bind (wpS_lo2 C M hk0 hl hs hG' (fun m c st2 hs2 hm => ?_) fun o i j g p q st2 hs2 hG2 => ?_)
      · exact wpS_pure ⟨hs2, m, rfl, hm⟩
      · dsimp only
        rw [setG'_eq]
        refine wpS_bind (wpS_modify (wpS_pure ⟨hs2.g _, _, _, _, _, rfl, hG2⟩))
end
end TS

set_option Elab.async false
set_option linter.all false
set_option maxRecDepth 100000
namespace TS
open PySem PyProof.Rows
def mhi' : Array Keyed → Array Keyed → StateT SortSt Sem (Array Keyed) := sortPriv% PySem.Builtin.mergeHi
abbrev fA (a b o : Array Keyed) (i j : Nat) : Array Keyed := a.extract 0 i ++ b.extract 0 j ++ o.reverse
abbrev fB (a b o : Array Keyed) (i j : Nat) : Array Keyed := b.extract 0 j ++ a.extract 0 i ++ o.reverse
abbrev H1 := Option (Array Keyed) × Nat × Nat × Array Keyed × Nat × Nat
abbrev H2 := Option (Array Keyed) × Nat × Nat × Array Keyed × Nat × Nat × Nat
abbrev H3 := Option (Array Keyed) × Nat × Nat × Array Keyed × Nat
def hi1 (a b : Array Keyed) (g : Nat) (o : Array Keyed) (i j : Nat) : StateT SortSt Sem H1 :=
  forIn [0:a.size + b.size] ((none, i, j, o, 0, 0) : H1) fun _ (_, i, j, o, p, q) => do
    let y ← elem' b (j - 1)
    let x ← elem' a (i - 1)
    let r ← lt' y x
    match r with
    | some z =>
      if z then do
        let x ← elem' a (i - 1)
        if i - 1 == 0 then pure (.done (some (fA a b (o.push x) (i - 1) j), i - 1, j, o.push x, p + 1, 0))
        else if p + 1 ≥ g then pure (.done (none, i - 1, j, o.push x, p + 1, 0))
        else pure (.yield (none, i - 1, j, o.push x, p + 1, 0))
      else do
        let y ← elem' b (j - 1)
        if j - 1 == 1 then pure (.done (some (fB a b (o.push y) i (j - 1)), i, j - 1, o.push y, 0, q + 1))
        else if q + 1 ≥ g then pure (.done (none, i, j - 1, o.push y, 0, q + 1))
        else pure (.yield (none, i, j - 1, o.push y, 0, q + 1))
    | _ => pure (.done (some (fA a b o i j), i, j, o, p, q))
def h4 (a b o : Array Keyed) (i j g p q : Nat) : StateT SortSt Sem (ForInStep H2) := do
  let x ← elem' a (i - 1)
  if i - 1 == 0 then pure (.done (some (fA a b (o.push x) (i - 1) j), i - 1, j, o.push x, g, p, q))
  else if decide (p < 7) && decide (q < 7) then pure (.done (none, i - 1, j, o.push x, g, p, q))
  else pure (.yield (none, i - 1, j, o.push x, g, p, q))
def h3 (a b o : Array Keyed) (i j g p q : Nat) : StateT SortSt Sem (ForInStep H2) := do
  let x ← elem' a (i - 1)
  let r ← gal' true x b 0 j (j - 1)
  match r with
  | some k =>
    if j - k > 0 then
      if k == 1 then pure (.done (some (fB a b (o ++ (b.extract k j).reverse) i k), i, k, o ++ (b.extract k j).reverse, g, p, j - k))
      else if k == 0 then pure (.done (some (fA a b (o ++ (b.extract k j).reverse) i k), i, k, o ++ (b.extract k j).reverse, g, p, j - k))
      else h4 a b (o ++ (b.extract k j).reverse) i k g p (j - k)
    else h4 a b o i j g p (j - k)
  | _ => pure (.done (some (fA a b o i j), i, j, o, g, p, q))
def h2 (a b o : Array Keyed) (i j g p q : Nat) : StateT SortSt Sem (ForInStep H2) := do
  let y ← elem' b (j - 1)
  if j - 1 == 1 then pure (.done (some (fB a b (o.push y) i (j - 1)), i, j - 1, o.push y, g, p, q))
  else h3 a b (o.push y) i (j - 1) g p q
def h1 (a b o : Array Keyed) (i j g p q : Nat) : StateT SortSt Sem (ForInStep H2) := do
  setG' g
  let y ← elem' b (j - 1)
  let r ← gal' false y a 0 i (i - 1)
  match r with
  | some k =>
    if i - k > 0 then
      if k == 0 then pure (.done (some (fA a b (o ++ (a.extract k i).reverse) k j), k, j, o ++ (a.extract k i).reverse, g, i - k, q))
      else h2 a b (o ++ (a.extract k i).reverse) k j g (i - k) q
    else h2 a b o i j g (i - k) q
  | _ => pure (.done (some (fA a b o i j), i, j, o, g, p, q))
def hi2 (a b : Array Keyed) (o : Array Keyed) (i j g p q : Nat) : StateT SortSt Sem H2 :=
  forIn [0:a.size + b.size] ((none, i, j, o, g, p, q) : H2) fun _ (_, i, j, o, g, p, q) =>
    if g > 1 then h1 a b o i j (g - 1) p q else h1 a b o i j g p q
theorem mhi'_eq0 (a b : Array Keyed) : mhi' a b = (do
  liftM (rule "list.sort.merge-hi")
  let mut i := a.size - 1
  let mut j := b.size
  let mut o : Array Keyed := #[← elem' a i]
  if i == 0 then return fA a b o i j
  if j == 1 then return fB a b o i j
  let mut g := gallopOf (← get)
  for _ in [0:a.size + b.size] do
    let mut p := 0
    let mut q := 0
    for _ in [0:a.size + b.size] do
      let some z ← lt' (← elem' b (j - 1)) (← elem' a (i - 1)) | return fA a b o i j
      if z then
        i := i - 1; o := o.push (← elem' a i); p := p + 1; q := 0
        if i == 0 then return fA a b o i j
        if p ≥ g then break
      else
        j := j - 1; o := o.push (← elem' b j); q := q + 1; p := 0
        if j == 1 then return fB a b o i j
        if q ≥ g then break
    liftM (rule "list.sort.gallop")
    g := g + 1
    for _ in [0:a.size + b.size] do
      if g > 1 then g := g - 1
      setG' g
      let some v ← gal' false (← elem' b (j - 1)) a 0 i (i - 1) | return fA a b o i j
      let k := i - v
      p := k
      if k > 0 then
        o := o ++ (a.extract v i).reverse; i := v
        if i == 0 then return fA a b o i j
      j := j - 1; o := o.push (← elem' b j)
      if j == 1 then return fB a b o i j
      let some v ← gal' true (← elem' a (i - 1)) b 0 j (j - 1) | return fA a b o i j
      let k := j - v
      q := k
      if k > 0 then
        o := o ++ (b.extract v j).reverse; j := v
        if j == 1 then return fB a b o i j
        if j == 0 then return fA a b o i j
      i := i - 1; o := o.push (← elem' a i)
      if i == 0 then return fA a b o i j
      if p < 7 && q < 7 then break
    g := g + 1
    setG' g
  liftM (m := Sem) (unsupported "internal:list.sort.merge-bound")) := rfl
theorem mhi'_eq (a b : Array Keyed) : mhi' a b = (do
  liftM (rule "list.sort.merge-hi")
  let x ← elem' a (a.size - 1)
  if a.size - 1 == 0 then pure (fA a b #[x] (a.size - 1) b.size)
  else if b.size == 1 then pure (fB a b #[x] (a.size - 1) b.size)
  else do
    let st ← get
    let c ← (forIn [0:a.size + b.size] ((none, a.size - 1, b.size, #[x], gallopOf st) : H3) fun _ (_, i, j, o, g) => do
      let c ← hi1 a b g o i j
      match c.1 with
      | some r => pure (.done (some r, c.2.1, c.2.2.1, c.2.2.2.1, g))
      | none => do
        liftM (rule "list.sort.gallop")
        let d ← hi2 a b c.2.2.2.1 c.2.1 c.2.2.1 (g + 1) c.2.2.2.2.1 c.2.2.2.2.2
        match d.1 with
        | some r => pure (.done (some r, d.2.1, d.2.2.1, d.2.2.2.1, d.2.2.2.2.1))
        | none => do
          setG' (d.2.2.2.2.1 + 1)
          pure (.yield (none, d.2.1, d.2.2.1, d.2.2.2.1, d.2.2.2.2.1 + 1)))
    match c.1 with
    | some r => pure r
    | none => liftM (m := Sem) (unsupported "internal:list.sort.merge-bound")) := by
  rw [mhi'_eq0]
  unfold hi2
  congr 1
  funext _
  dsimp only
  refine congrArg (fun f => elem' a (a.size - 1) >>= f) ?_
  funext y
  congr 1
  congr 1
  refine congrArg (fun f => (get : StateT SortSt Sem SortSt) >>= f) ?_
  funext st
  refine congrArg (fun m => m >>= _) ?_ |>.trans (congrArg (fun f => _ >>= f) ?_)
  · congr 1
    funext x c
    obtain ⟨c0, i, j, o, g⟩ := c
    dsimp only
    refine congrArg (fun f => hi1 a b g o i j >>= f) ?_
    funext c
    obtain ⟨r, i, j, o, p, q⟩ := c
    cases r with
    | some r => rfl
    | none =>
      dsimp only
      congr 1
      funext _
      refine congrArg (fun m => m >>= _) ?_ |>.trans (congrArg (fun f => _ >>= f) ?_)
      · congr 1
      · funext d
        obtain ⟨r, i, j, o, g, p, q⟩ := d
        cases r <;> rfl
  · funext d
    obtain ⟨r, i, j, o, g⟩ := d
    cases r <;> rfl
end TS

set_option Elab.async false
set_option linter.all false
set_option maxRecDepth 100000
namespace TS
open PySem PyProof.Rows
abbrev fl (R : Keyed → Keyed → Bool) : Keyed → Keyed → Bool := fun x y => R y x
theorem ext_to (a : Array Keyed) (i : Nat) : (a.extract 0 i).toList = a.toList.take i := by
  rw [Array.toList_extract, List.extract_eq_take_drop, List.drop_zero, Nat.sub_zero]
theorem ext_mid (a : Array Keyed) (k i : Nat) : (a.extract k i).toList = (a.toList.take i).drop k := by
  rw [Array.toList_extract, List.extract_eq_take_drop, List.drop_take]
theorem fA_list (a b o : Array Keyed) (i j : Nat) : (fA a b o i j).toList = (o.toList ++ (b.toList.take j).reverse ++ (a.toList.take i).reverse).reverse := by
  show (a.extract 0 i ++ b.extract 0 j ++ o.reverse).toList = _
  rw [Array.toList_append, Array.toList_append, ext_to, ext_to, Array.toList_reverse, List.reverse_append, List.reverse_append, List.reverse_reverse, List.reverse_reverse, List.append_assoc]
theorem fB_list (a b o : Array Keyed) (i j : Nat) : (fB a b o i j).toList = (o.toList ++ (a.toList.take i).reverse ++ (b.toList.take j).reverse).reverse := by
  show (b.extract 0 j ++ a.extract 0 i ++ o.reverse).toList = _
  rw [Array.toList_append, Array.toList_append, ext_to, ext_to, Array.toList_reverse, List.reverse_append, List.reverse_append, List.reverse_reverse, List.reverse_reverse, List.append_assoc]
theorem at_take {a : Array Keyed} {i : Nat} (h1 : 1 ≤ i) (h : i ≤ a.size) : ∃ x, a[i - 1]? = some x ∧ (a.toList.take i).reverse = x :: (a.toList.take (i - 1)).reverse ∧ x ∈ a.toList := by
  have h' : i - 1 < a.size := by omega
  obtain ⟨x, e1, _, e3⟩ := at_drop (a := a) (i := i - 1) h'
  refine ⟨x, e1, ?_, e3⟩
  obtain ⟨n, rfl⟩ : ∃ n, i = n + 1 := ⟨i - 1, by omega⟩
  rw [Nat.add_sub_cancel] at e1 ⊢
  rw [List.take_succ, Array.getElem?_toList, e1, List.reverse_append]
  rfl
section
variable {prog : Program} {w : World} {A : Around} {E : Value → Shared → Prop} {s : Shared} {κ : SortKind} {Ok : Keyed → Prop} {R : Keyed → Keyed → Bool} {a b : Array Keyed} {T : List Keyed} {N : Nat} {Q : ForInStep H2 → SortSt → Prop} {st0 st : SortSt} {o : Array Keyed} {i j g p q : Nat}
theorem good_rev {m : Array Keyed} {l : List Keyed} (e : m.toList = l.reverse) (h : l.Perm T ∧ l.Pairwise (Le (fl R))) : Good R T m := by
  unfold Good
  rw [e]
  refine ⟨(List.reverse_perm l).trans h.1, ?_⟩
  rw [List.pairwise_reverse]
  exact h.2
theorem good_fA (h : MI (fl R) T o.toList (a.toList.take i).reverse (b.toList.take j).reverse) (he : i = 0 ∨ j = 0) : Good R T (fA a b o i j) := by
  refine good_rev (fA_list a b o i j) (h.fin2 fun y hy x hx => ?_)
  rcases he with rfl | rfl
  · simp at hx
  · simp at hy
theorem good_fB (h : MI (fl R) T o.toList (a.toList.take i).reverse (b.toList.take 1).reverse) (h0 : ∀ y, b[0]? = some y → ∀ x ∈ a.toList, Le R y x) (hb : 0 < b.size) : Good R T (fB a b o i 1) := by
  refine good_rev (fB_list a b o i 1) (h.fin fun x hx y hy => ?_)
  obtain ⟨z, e1, e2, _⟩ := at_take (a := b) (i := 1) (Nat.le_refl _) hb
  rw [e2] at hy
  have : y = z := by simpa using hy
  subst this
  exact h0 y e1 x (List.mem_of_mem_take (List.mem_reverse.mp hx))
def GH (R : Keyed → Keyed → Bool) (a b : Array Keyed) (T : List Keyed) (N : Nat) (o : Array Keyed) (i j : Nat) : Prop := MI (fl R) T o.toList (a.toList.take i).reverse (b.toList.take j).reverse ∧ 1 ≤ i ∧ i ≤ a.size ∧ 2 ≤ j ∧ j ≤ b.size ∧ N + i + j ≤ a.size + b.size
structure KH (R : Keyed → Keyed → Bool) (a b : Array Keyed) (T : List Keyed) (N : Nat) (Q : ForInStep H2 → SortSt → Prop) (st0 : SortSt) : Prop where
  fin : ∀ m c st', SG st0 st' → Good R T m → Q (.done (some m, c)) st'
  stop : ∀ o i j g p q st', SG st0 st' → GH R a b T N o i j → Q (.done (none, i, j, o, g, p, q)) st'
  go : ∀ o i j g p q st', SG st0 st' → GH R a b T N o i j → Q (.yield (none, i, j, o, g, p, q)) st'
theorem wpS_h4 (K : KH R a b T N Q st0) (hs : SG st0 st) (h : GH R a b T N o i j)
    (hx : ∀ x, a[i - 1]? = some x → ∀ y ∈ b.toList.take j, Le R y x) : wpS (model prog w) A E s (h4 a b o i j g p q) Q st := by
  obtain ⟨h, i1, i2, j1, j2, hN⟩ := h
  obtain ⟨x, e1, e2, _⟩ := at_take (a := a) (i := i) i1 i2
  unfold h4
  refine wpS_bind (wpS_elem e1 ?_)
  rw [e2] at h
  have h' : MI (fl R) T (o.push x).toList (a.toList.take (i - 1)).reverse (b.toList.take j).reverse := by
    rw [push_list]
    exact MI.as (xs := [x]) h fun z hz y hy => by rw [List.mem_singleton.mp hz]; exact hx x e1 y (List.mem_reverse.mp hy)
  by_cases z : i - 1 = 0
  · rw [if_pos (by simpa using z)]
    exact wpS_pure (K.fin _ _ _ hs (good_fA h' (.inl z)))
  · rw [if_neg (by simpa using z)]
    have G : GH R a b T N (o.push x) (i - 1) j := ⟨h', by omega, by omega, j1, j2, by omega⟩
    by_cases z2 : (decide (p < 7) && decide (q < 7)) = true
    · rw [if_pos z2]; exact wpS_pure (K.stop _ _ _ _ _ _ _ hs G)
    · rw [if_neg z2]; exact wpS_pure (K.go _ _ _ _ _ _ _ hs G)
theorem take_split {c : Array Keyed} {i k : Nat} (h : k ≤ i) : (c.toList.take i).reverse = ((c.toList.take i).drop k).reverse ++ (c.toList.take k).reverse := by
  rw [← List.reverse_append]
  congr 1
  have : c.toList.take k = (c.toList.take i).take k := by rw [List.take_take, Nat.min_eq_left h]
  rw [this, List.take_append_drop]
theorem ok_take {c : Array Keyed} (h : ∀ x ∈ c.toList, Ok x) {d : Nat} {x : Keyed} (e : x ∈ c.toList.take d) : Ok x := h x (List.mem_of_mem_take e)
theorem le_last (C : Cmp prog w A s κ Ok R) {c : Array Keyed} (oc : ∀ x ∈ c.toList, Ok x) (sc : c.toList.Pairwise (Le R)) {i : Nat} {x y z : Keyed} (e : c[i - 1]? = some x) (hy : y ∈ c.toList.take i) (oz : Ok z) (l : Le R x z) : Le R y z := by
  obtain ⟨k, hk, ek⟩ := mem_take_at hy
  rw [Array.getElem?_toList] at ek
  by_cases h : k = i - 1
  · subst h; rw [e] at ek; cases ek; exact l
  · exact C.tr y x z (ok_take oc hy) (ok_at oc e) oz (sorted_at sc (by omega) ek e) l
theorem wpS_h3 (C : Cmp prog w A s κ Ok R) (M : MH Ok R a b) (hk0 : kindOf st0 = κ) (h0 : ∀ y, b[0]? = some y → ∀ x ∈ a.toList, Le R y x) (K : KH R a b T N Q st0) (hs : SG st0 st) (h : GH R a b T N o i j) : wpS (model prog w) A E s (h3 a b o i j g p q) Q st := by
  obtain ⟨h, i1, i2, j1, j2, hN⟩ := h
  obtain ⟨x, e1, e2, mx⟩ := at_take (a := a) (i := i) i1 i2
  have ox := M.oa x mx
  unfold h3
  refine wpS_bind (wpS_elem e1 ?_)
  refine wpS_bind (wpS_galS (d := 0) (n := j) (hint := j - 1) C (hs.k.trans hk0) ox M.ob (by omega) (fun i j x y _ hij _ hx hy => sorted_at M.sb hij hx hy) (by omega) fun k hkn t1 t2 => ?_)
  rw [List.drop_zero] at t1 t2
  dsimp only
  have hah : ∀ y ∈ b.toList.take k, Le R y x := fun y hy => by
    have t := t1 y hy
    unfold farB at t
    have t' : R y x = true := by simpa using t
    exact C.as y x (ok_take M.ob hy) ox t'
  have hx4 : ∀ {j' : Nat}, (∀ y ∈ b.toList.take j', Le R y x) → ∀ x', a[i - 1]? = some x' → ∀ y ∈ b.toList.take j', Le R y x' := fun {j'} hh x' e y hy => by
    rw [e1] at e; cases e; exact hh y hy
  by_cases z : j - k > 0
  · rw [if_pos z]
    have h' : MI (fl R) T (o ++ (b.extract k j).reverse).toList (a.toList.take i).reverse (b.toList.take k).reverse := by
      rw [Array.toList_append, Array.toList_reverse, ext_mid]
      rw [take_split (c := b) (i := j) (k := k) hkn] at h
      refine h.bs fun y hy x' hx' => ?_
      have t := t2 y (List.mem_reverse.mp hy)
      unfold farB at t
      have t' : Le R x y := by
        show R y x = false
        simpa using t
      show Le R x' y
      exact le_last C M.oa M.sa e1 (List.mem_reverse.mp hx') (ok_take M.ob (List.mem_of_mem_drop (List.mem_reverse.mp hy))) t'
    by_cases z1 : k = 1
    · rw [if_pos (by simpa using z1)]
      subst z1
      exact wpS_pure (K.fin _ _ _ hs (good_fB h' h0 (by omega)))
    · rw [if_neg (by simpa using z1)]
      by_cases z2 : k = 0
      · rw [if_pos (by simpa using z2)]
        exact wpS_pure (K.fin _ _ _ hs (good_fA h' (.inr z2)))
      · rw [if_neg (by simpa using z2)]
        exact wpS_h4 K hs ⟨h', i1, i2, by omega, by omega, by omega⟩ (hx4 hah)
  · rw [if_neg z]
    have ek : k = j := by omega
    subst ek
    exact wpS_h4 K hs ⟨h, i1, i2, j1, j2, hN⟩ (hx4 hah)
theorem wpS_h2 (C : Cmp prog w A s κ Ok R) (M : MH Ok R a b) (hk0 : kindOf st0 = κ) (h0 : ∀ y, b[0]? = some y → ∀ x ∈ a.toList, Le R y x) (K : KH R a b T N Q st0) (hs : SG st0 st) (h : GH R a b T N o i j)
    (hy : ∀ y, b[j - 1]? = some y → ∀ x ∈ a.toList.take i, Le R x y) : wpS (model prog w) A E s (h2 a b o i j g p q) Q st := by
  obtain ⟨h, i1, i2, j1, j2, hN⟩ := h
  obtain ⟨y, e1, e2, _⟩ := at_take (a := b) (i := j) (by omega) j2
  unfold h2
  refine wpS_bind (wpS_elem e1 ?_)
  rw [e2] at h
  have h' : MI (fl R) T (o.push y).toList (a.toList.take i).reverse (b.toList.take (j - 1)).reverse := by
    rw [push_list]
    exact MI.bs (xs := [y]) h fun z hz x hx => by rw [List.mem_singleton.mp hz]; exact hy y e1 x (List.mem_reverse.mp hx)
  by_cases z : j - 1 = 1
  · rw [if_pos (by simpa using z)]
    rw [z] at h' ⊢
    exact wpS_pure (K.fin _ _ _ hs (good_fB h' h0 (by omega)))
  · rw [if_neg (by simpa using z)]
    exact wpS_h3 C M hk0 h0 K hs ⟨h', i1, i2, by omega, by omega, by omega⟩
theorem wpS_h1 (C : Cmp prog w A s κ Ok R) (M : MH Ok R a b) (hk0 : kindOf st0 = κ) (h0 : ∀ y, b[0]? = some y → ∀ x ∈ a.toList, Le R y x) (K : KH R a b T N Q st0) (hs : SG st0 st) (h : GH R a b T N o i j) : wpS (model prog w) A E s (h1 a b o i j g p q) Q st := by
  obtain ⟨h, i1, i2, j1, j2, hN⟩ := h
  obtain ⟨y, e1, e2, my⟩ := at_take (a := b) (i := j) (by omega) j2
  have oy := M.ob y my
  unfold h1
  rw [setG'_eq]
  refine wpS_bind (wpS_modify ?_)
  have hs' := hs.g g
  refine wpS_bind (wpS_elem e1 ?_)
  refine wpS_bind (wpS_galS (d := 0) (n := i) (hint := i - 1) C (hs'.k.trans hk0) oy M.oa (by omega) (fun i j x y _ hij _ hx hy => sorted_at M.sa hij hx hy) (by omega) fun k hkn t1 t2 => ?_)
  rw [List.drop_zero] at t1 t2
  dsimp only
  have hah : ∀ x ∈ a.toList.take k, Le R x y := fun x hx => by
    have t := t1 x hx
    unfold farB at t
    show R y x = false
    simpa using t
  have hy2 : ∀ {i' : Nat}, (∀ x ∈ a.toList.take i', Le R x y) → ∀ y', b[j - 1]? = some y' → ∀ x ∈ a.toList.take i', Le R x y' := fun {i'} hh y' e x hx => by
    rw [e1] at e; cases e; exact hh x hx
  by_cases z : i - k > 0
  · rw [if_pos z]
    have h' : MI (fl R) T (o ++ (a.extract k i).reverse).toList (a.toList.take k).reverse (b.toList.take j).reverse := by
      rw [Array.toList_append, Array.toList_reverse, ext_mid]
      rw [take_split (c := a) (i := i) (k := k) hkn] at h
      refine h.as fun x hx y' hy' => ?_
      have t := t2 x (List.mem_reverse.mp hx)
      unfold farB at t
      have t' : R y x = true := by simpa using t
      have ox := ok_take M.oa (List.mem_of_mem_drop (List.mem_reverse.mp hx))
      show Le R y' x
      exact le_last C M.ob M.sb e1 (List.mem_reverse.mp hy') ox (C.as y x oy ox t')
    by_cases z1 : k = 0
    · rw [if_pos (by simpa using z1)]
      exact wpS_pure (K.fin _ _ _ hs' (good_fA h' (.inl z1)))
    · rw [if_neg (by simpa using z1)]
      exact wpS_h2 C M hk0 h0 K hs' ⟨h', by omega, by omega, j1, j2, by omega⟩ (hy2 hah)
  · rw [if_neg z]
    have ek : k = i := by omega
    subst ek
    exact wpS_h2 C M hk0 h0 K hs' ⟨h, i1, i2, j1, j2, hN⟩ (hy2 hah)
theorem wpS_hi2 {Q : H2 → SortSt → Prop} (C : Cmp prog w A s κ Ok R) (M : MH Ok R a b) (hk0 : kindOf st0 = κ) (h0 : ∀ y, b[0]? = some y → ∀ x ∈ a.toList, Le R y x) (hs : SG st0 st) (h : GH R a b T N o i j)
    (hf : ∀ m c st', SG st0 st' → Good R T m → Q (some m, c) st') (hd : ∀ o i j g p q st', SG st0 st' → GH R a b T N o i j → Q (none, i, j, o, g, p, q) st') : wpS (model prog w) A E s (hi2 a b o i j g p q) Q st := by
  unfold hi2
  refine wpS_forRange (I := fun _ c st' => SG st0 st' ∧ ∃ o i j g p q, c = (none, i, j, o, g, p, q) ∧ GH R a b T N o i j) ?step ?fin ⟨hs, _, _, _, _, _, _, rfl, h⟩
  case fin =>
    rintro c st' ⟨hs', o, i, j, g, p, q, rfl, h'⟩
    exact hd _ _ _ _ _ _ _ hs' h'
  case step =>
    rintro x c st' _ _ ⟨hs', o, i, j, g, p, q, rfl, h'⟩
    dsimp only
    split
    · exact wpS_h1 C M hk0 h0 ⟨fun m c st' a b => hf m c st' a b, fun o i j g p q st' a b => hd o i j g p q st' a b, fun o i j g p q st' a b => ⟨a, _, _, _, _, _, _, rfl, b⟩⟩ hs' h'
    · exact wpS_h1 C M hk0 h0 ⟨fun m c st' a b => hf m c st' a b, fun o i j g p q st' a b => hd o i j g p q st' a b, fun o i j g p q st' a b => ⟨a, _, _, _, _, _, _, rfl, b⟩⟩ hs' h'
theorem wpS_hi1 {Q : H1 → SortSt → Prop} (C : Cmp prog w A s κ Ok R) (M : MH Ok R a b) (hk0 : kindOf st = κ) (h0 : ∀ y, b[0]? = some y → ∀ x ∈ a.toList, Le R y x) (h : GH R a b T N o i j)
    (hf : ∀ m c, Good R T m → Q (some m, c) st) (hd : ∀ o i j p q, GH R a b T (N + 1) o i j → Q (none, i, j, o, p, q) st) : wpS (model prog w) A E s (hi1 a b g o i j) Q st := by
  unfold hi1
  refine wpS_forRange (I := fun x c st' => st' = st ∧ ∃ o i j p q, c = (none, i, j, o, p, q) ∧ GH R a b T (N + x) o i j) ?step ?fin ⟨rfl, _, _, _, _, _, rfl, h⟩
  case fin =>
    rintro c st' ⟨rfl, o, i, j, p, q, rfl, k1, k2, k3, k4, k5, k6⟩
    omega
  case step =>
    rintro x c st' _ hx ⟨rfl, o, i, j, p, q, rfl, k1, i1, i2, j1, j2, hN⟩
    dsimp only
    obtain ⟨xa, e1, e2, mx⟩ := at_take (a := a) (i := i) i1 i2
    obtain ⟨yb, f1, f2, my⟩ := at_take (a := b) (i := j) (by omega) j2
    have ox := M.oa xa mx
    have oy := M.ob yb my
    refine wpS_bind (wpS_elem f1 (wpS_bind (wpS_elem e1 (wpS_bind (wpS_lt' C hk0 oy ox ?_)))))
    dsimp only
    cases hz : R yb xa with
    | true =>
      rw [if_pos rfl]
      refine wpS_bind (wpS_elem e1 ?_)
      have l1 : Le R yb xa := C.as yb xa oy ox hz
      have h' : MI (fl R) T (o.push xa).toList (a.toList.take (i - 1)).reverse (b.toList.take j).reverse := by
        rw [push_list]
        rw [e2] at k1
        refine MI.as (xs := [xa]) k1 fun z hz y hy => ?_
        rw [List.mem_singleton.mp hz]
        show Le R y xa
        exact le_last C M.ob M.sb f1 (List.mem_reverse.mp hy) ox l1
      by_cases z : i - 1 = 0
      · rw [if_pos (by simpa using z)]
        exact wpS_pure (hf _ _ (good_fA h' (.inl z)))
      · rw [if_neg (by simpa using z)]
        split
        · exact wpS_pure (hd _ _ _ _ _ ⟨h', by omega, by omega, j1, j2, by omega⟩)
        · exact wpS_pure ⟨rfl, _, _, _, _, _, rfl, h', by omega, by omega, j1, j2, by omega⟩
    | false =>
      rw [if_neg (by simp)]
      refine wpS_bind (wpS_elem f1 ?_)
      have h' : MI (fl R) T (o.push yb).toList (a.toList.take i).reverse (b.toList.take (j - 1)).reverse := by
        rw [push_list]
        rw [f2] at k1
        refine MI.bs (xs := [yb]) k1 fun z hz' x hx => ?_
        rw [List.mem_singleton.mp hz']
        show Le R x yb
        exact le_last C M.oa M.sa e1 (List.mem_reverse.mp hx) oy hz
      by_cases z : j - 1 = 1
      · rw [if_pos (by simpa using z)]
        rw [z] at h' ⊢
        exact wpS_pure (hf _ _ (good_fB h' h0 (by omega)))
      · rw [if_neg (by simpa using z)]
        split
        · exact wpS_pure (hd _ _ _ _ _ ⟨h', i1, i2, by omega, by omega, by omega⟩)
        · exact wpS_pure ⟨rfl, _, _, _, _, _, rfl, h', i1, i2, by omega, by omega, by omega⟩
theorem wpS_mhi {Q : Array Keyed → SortSt → Prop} (C : Cmp prog w A s κ Ok R) (M : MH Ok R a b) (hk0 : kindOf st = κ) (hl : ∀ x, a.toList.getLast? = some x → ∀ y ∈ b.toList, Le R y x) (hb : 0 < b.size) (ha : 0 < a.size)
    (h0 : ∀ y, b[0]? = some y → ∀ x ∈ a.toList, Le R y x) (h : ∀ m st', SG st st' → Good R (a.toList ++ b.toList) m → Q m st') : wpS (model prog w) A E s (mhi' a b) Q st := by
  rw [mhi'_eq]
  refine wpS_bind (wpS_lift (wpAny_rule ⟨rfl, ?_⟩))
  obtain ⟨x, e1, e2, _⟩ := at_take (a := a) (i := a.size) ha (Nat.le_refl _)
  refine wpS_bind (wpS_elem e1 ?_)
  have ea : a.toList.take a.size = a.toList := List.take_of_length_le (by rw [Array.length_toList]; exact Nat.le_refl _)
  have eb : b.toList.take b.size = b.toList := List.take_of_length_le (by rw [Array.length_toList]; exact Nat.le_refl _)
  have hM : MI (fl R) (a.toList ++ b.toList) (#[x] : Array Keyed).toList (a.toList.take (a.size - 1)).reverse (b.toList.take b.size).reverse := by
    have base : MI (fl R) (a.toList ++ b.toList) [] (a.toList.take a.size).reverse (b.toList.take b.size).reverse := by
      rw [ea, eb]
      refine ⟨?_, List.Pairwise.nil, ?_, ?_, (fun o ho => by cases ho), (fun o ho => by cases ho)⟩
      · rw [List.nil_append]
        exact List.Perm.append (List.reverse_perm _) (List.reverse_perm _)
      · rw [List.pairwise_reverse]; exact M.sa
      · rw [List.pairwise_reverse]; exact M.sb
    rw [e2] at base
    exact MI.as (xs := [x]) base fun z hz y hy => by
      rw [List.mem_singleton.mp hz]
      refine hl x ?_ y (by rw [eb] at hy; exact List.mem_reverse.mp hy)
      rw [List.getLast?_eq_getElem?, Array.length_toList, Array.getElem?_toList]
      exact e1
  by_cases z : a.size - 1 = 0
  · rw [if_pos (by simpa using z)]
    exact wpS_pure (h _ _ (SG.refl st) (good_fA hM (.inl z)))
  rw [if_neg (by simpa using z)]
  by_cases z1 : b.size = 1
  · rw [if_pos (by simpa using z1)]
    rw [z1] at hM ⊢
    exact wpS_pure (h _ _ (SG.refl st) (good_fB hM h0 hb))
  rw [if_neg (by simpa using z1)]
  refine wpS_bind (wpS_get ?_)
  refine wpS_bind (wpS_mono (wpS_forRange (I := fun x c st' => SG st st' ∧ ∃ o i j g, c = (none, i, j, o, g) ∧ GH R a b (a.toList ++ b.toList) x o i j)
    (Q := fun c st' => SG st st' ∧ ∃ m, c.1 = some m ∧ Good R (a.toList ++ b.toList) m) ?step ?fin ⟨SG.refl st, _, _, _, _, rfl, hM, by omega, by omega, by omega, by omega, by omega⟩) ?post)
  case fin =>
    rintro c st' ⟨hs, o, i, j, g, rfl, k1, k2, k3, k4, k5, k6⟩
    omega
  case post =>
    rintro ⟨c1, c2⟩ st' ⟨hs, m, e, hm⟩
    cases e
    exact wpS_pure (h m st' hs hm)
  case step =>
    rintro x c st' _ hx ⟨hs, o, i, j, g, rfl, hG⟩
    dsimp only
    refine wpS_bind (wpS_hi1 C M (hs.k.trans hk0) h0 hG (fun m c hm => ?_) fun o i j p q hG' => ?_)
    · exact wpS_pure ⟨hs, m, rfl, hm⟩
    · dsimp only
      refine wpS_bind (wpS_lift (wpAny_rule ⟨rfl, ?_⟩))
      refine wpS_bind (wpS_hi2 C M hk0 h0 hs hG' (fun m c st2 hs2 hm => ?_) fun o i j g p q st2 hs2 hG2 => ?_)
      · exact wpS_pure ⟨hs2, m, rfl, hm⟩
      · dsimp only
        rw [setG'_eq]
        refine wpS_bind (wpS_modify (wpS_pure ⟨hs2.g _, _, _, _, _, rfl, hG2⟩))
end
end TS

set_option Elab.async false
set_option linter.all false
set_option maxRecDepth 100000
namespace TS
open PySem PyProof.Rows
def wr (c : Array Keyed) (d : Nat) (m : List Keyed) : Array Keyed := m.zipIdx.foldl (fun a (p, j) => a.setIfInBounds (d + j) p) c
theorem wr_go (d : Nat) : ∀ (m : List Keyed) (k : Nat) (c : Array Keyed), d + k + m.length ≤ c.size → ((m.zipIdx k).foldl (fun a (p, j) => a.setIfInBounds (d + j) p) c).toList = c.toList.take (d + k) ++ m ++ c.toList.drop (d + k + m.length)
  | [], k, c, _ => by simp
  | x :: m, k, c, h => by
    rw [List.length_cons] at h
    rw [List.zipIdx_cons, List.foldl_cons, wr_go d m (k + 1) _ (by rw [Array.size_setIfInBounds]; omega), Array.toList_setIfInBounds]
    have hl : d + k < c.toList.length := by rw [Array.length_toList]; omega
    rw [List.length_cons, show d + (k + 1) = d + k + 1 by omega, List.take_succ, List.getElem?_set_self hl, List.take_set_of_le (Nat.le_refl _), List.drop_set_of_lt (by omega), show d + k + 1 + m.length = d + k + (m.length + 1) by omega]
    simp
theorem wr_list {c : Array Keyed} {d : Nat} {m : List Keyed} (h : d + m.length ≤ c.size) : (wr c d m).toList = c.toList.take d ++ m ++ c.toList.drop (d + m.length) := by
  have := wr_go d m 0 c (by omega)
  simpa [wr] using this
theorem mergeAt'_eq (t : Nat) : mergeAt' t = (do
  let u ← get
  let (some (l, n, e), some (r, m, _)) := ((pendingOf u)[t]?, (pendingOf u)[t + 1]?) | unsupported "internal:list.sort.pending"
  set (setPending u (((pendingOf u).setIfInBounds t (l, n + m, e)).eraseIdxIfInBounds (t + 1)))
  let y ← elem' (arrOf u) r
  let some k ← gal' false y (arrOf u) l n 0 | return false
  if n - k == 0 then return true
  let x ← elem' (arrOf u) (l + k + (n - k) - 1)
  let some k2 ← gal' true x (arrOf u) r m (m - 1) | return false
  if k2 == 0 then return true
  let z ← if n - k ≤ k2 then mlo' ((arrOf u).extract (l + k) r) ((arrOf u).extract r (r + k2)) else mhi' ((arrOf u).extract (l + k) r) ((arrOf u).extract r (r + k2))
  modify fun u => setArr u (wr (arrOf u) (l + k) z.toList)
  return (failedOf (← get)).isNone) := rfl
end TS

set_option Elab.async false
set_option linter.all false
set_option maxRecDepth 100000
namespace TS
open PySem PyProof.Rows
theorem seg {α : Type} {L P B S : List α} {d n : Nat} (e : L = P ++ B ++ S) (h1 : P.length = d) (h2 : B.length = n) : (L.drop d).take n = B := by
  rw [e, List.append_assoc, List.drop_left' h1, List.take_left' h2]
theorem app3_out {α : Type} {U V V' W : List α} {i : Nat} (hl : V.length = V'.length) (h : i < U.length ∨ U.length + V.length ≤ i) : (U ++ V ++ W)[i]? = (U ++ V' ++ W)[i]? := by
  rcases h with h | h
  · rw [List.append_assoc, List.append_assoc, List.getElem?_append_left h, List.getElem?_append_left h]
  · rw [List.getElem?_append_right (by rw [List.length_append]; exact h), List.getElem?_append_right (by rw [List.length_append, ← hl]; exact h), List.length_append, List.length_append, hl]
def RS (R : Keyed → Keyed → Bool) (c : Array Keyed) (d n : Nat) : Prop := ((c.toList.drop d).take n).Pairwise (Le R)
theorem RS.at {R : Keyed → Keyed → Bool} {c : Array Keyed} {d n i j : Nat} {x y : Keyed} (h : RS R c d n) (hi : d ≤ i) (hij : i < j) (hj : j < d + n) (hx : c[i]? = some x) (hy : c[j]? = some y) : Le R x y := by
  refine pw_at h (i := i - d) (j := j - d) (by omega) ?_ ?_
  · rw [List.getElem?_take, if_pos (by omega), List.getElem?_drop, Array.getElem?_toList, show d + (i - d) = i by omega]; exact hx
  · rw [List.getElem?_take, if_pos (by omega), List.getElem?_drop, Array.getElem?_toList, show d + (j - d) = j by omega]; exact hy
theorem RS.of {R : Keyed → Keyed → Bool} {c : Array Keyed} {d n : Nat} (h : ∀ i j x y, d ≤ i → i < j → j < d + n → c[i]? = some x → c[j]? = some y → Le R x y) : RS R c d n := by
  unfold RS
  rw [List.pairwise_iff_getElem]
  intro i j h1 h2 hij
  have hj : j < n := by rw [List.length_take] at h2; omega
  refine h (d + i) (d + j) _ _ (by omega) (by omega) (by omega) ?_ ?_
  · have := List.getElem?_eq_getElem h1
    rw [List.getElem?_take, if_pos (by omega), List.getElem?_drop, Array.getElem?_toList] at this
    exact this
  · have := List.getElem?_eq_getElem h2
    rw [List.getElem?_take, if_pos (by omega), List.getElem?_drop, Array.getElem?_toList] at this
    exact this
section
variable {prog : Program} {w : World} {A : Around} {E : Value → Shared → Prop} {s : Shared} {κ : SortKind} {Ok : Keyed → Prop} {R : Keyed → Keyed → Bool} {st : SortSt}
theorem Cmp.re (C : Cmp prog w A s κ Ok R) {x : Keyed} (hx : Ok x) : Le R x x := by
  show R x x = false
  cases z : R x x with
  | false => rfl
  | true => have := C.as x x hx hx z; rw [z] at this; cases this
theorem wpS_set {σ : Type} {M : Model} {u : σ} {Q : PUnit → σ → Prop} {st : σ} (h : Q ⟨⟩ u) : wpS M A E s (set u : StateT σ Sem PUnit) Q st := by
  unfold wpS; rw [StateT.run_set]; exact wpAny_pure ⟨rfl, h⟩
theorem wpS_mergeAt {Q : Bool → SortSt → Prop} {t l n e r m e2 : Nat} (C : Cmp prog w A s κ Ok R) (hk : kindOf st = κ) (hf : failedOf st = none) (oa : ∀ x ∈ (arrOf st).toList, Ok x) (p1 : (pendingOf st)[t]? = some (l, n, e)) (p2 : (pendingOf st)[t + 1]? = some (r, m, e2))
    (hr : r = l + n) (hn : 1 ≤ n) (hm : 1 ≤ m) (hz : r + m ≤ (arrOf st).size) (s1 : RS R (arrOf st) l n) (s2 : RS R (arrOf st) r m)
    (h : ∀ st', kindOf st' = κ → failedOf st' = none → pendingOf st' = ((pendingOf st).setIfInBounds t (l, n + m, e)).eraseIdxIfInBounds (t + 1) → (arrOf st').toList.Perm (arrOf st).toList →
      (∀ i, i < l ∨ l + n + m ≤ i → (arrOf st')[i]? = (arrOf st)[i]?) → RS R (arrOf st') l (n + m) → Q true st') : wpS (model prog w) A E s (mergeAt' t) Q st := by
  rw [mergeAt'_eq]
  refine wpS_bind (wpS_get ?_)
  rw [p1, p2]
  dsimp only
  refine wpS_bind (wpS_set ?_)
  generalize hP' : ((pendingOf st).setIfInBounds t (l, n + m, e)).eraseIdxIfInBounds (t + 1) = pend at h ⊢
  generalize hc : arrOf st = c at *
  -- the parts
  have hlen : c.toList.length = c.size := Array.length_toList
  obtain ⟨P, X, Y, S, hL, lp, lx, ly⟩ : ∃ P X Y S, c.toList = P ++ X ++ Y ++ S ∧ P.length = l ∧ X.length = n ∧ Y.length = m := by
    refine ⟨c.toList.take l, (c.toList.drop l).take n, (c.toList.drop r).take m, c.toList.drop (r + m), ?_, by rw [List.length_take]; omega, by rw [List.length_take, List.length_drop]; omega, by rw [List.length_take, List.length_drop]; omega⟩
    subst hr
    rw [List.append_assoc, List.append_assoc, ← drop_split (c := c) (d := l + n) (k := m), ← drop_split (c := c) (d := l) (k := n), List.take_append_drop]
  have eX : (c.toList.drop l).take n = X := seg (P := P) (S := Y ++ S) (by rw [hL]; simp) lp lx
  have eY : (c.toList.drop r).take m = Y := seg (P := P ++ X) (S := S) hL (by rw [List.length_append]; omega) ly
  have sX : X.Pairwise (Le R) := by rw [← eX]; exact s1
  have sY : Y.Pairwise (Le R) := by rw [← eY]; exact s2
  have oX : ∀ x ∈ X, Ok x := fun x hx => oa x (by rw [hL]; simp [hx])
  have oY : ∀ y ∈ Y, Ok y := fun y hy => oa y (by rw [hL]; simp [hy])
  have allXY : (c.toList.drop l).take (n + m) = X ++ Y := seg (P := P) (S := S) (by rw [hL]; simp) lp (by rw [List.length_append]; omega)
  -- the first of the second
  obtain ⟨y0, Y', eY0⟩ : ∃ y0 Y', Y = y0 :: Y' := by
    cases Y with
    | nil => simp at ly; omega
    | cons y Y' => exact ⟨y, Y', rfl⟩
  have oy0 := oY y0 (by rw [eY0]; exact List.mem_cons_self)
  have gy0 : c[r]? = some y0 := by
    rw [← Array.getElem?_toList, hL, List.append_assoc, List.getElem?_append_right (by rw [List.length_append]; omega), List.length_append, show r - (P.length + X.length) = 0 by omega, eY0]
    rfl
  have y0Y : ∀ y ∈ Y, Le R y0 y := fun y hy => by
    rw [eY0] at hy sY
    rcases List.mem_cons.mp hy with rfl | hy
    · exact C.re oy0
    · exact (List.pairwise_cons.mp sY).1 y hy
  refine wpS_bind (wpS_elem gy0 ?_)
  refine wpS_bind (wpS_galS (d := l) (n := n) (hint := 0) C hk oy0 oa (by omega) (fun i j x y hi hij hj hx hy => s1.at hi hij hj hx hy) (by omega) fun k hkn t1 t2 => ?_)
  rw [eX] at t2
  have eX1 : (c.toList.drop l).take k = X.take k := by
    rw [← eX, List.take_take, Nat.min_eq_left hkn]
  rw [eX1] at t1
  dsimp only
  have low : ∀ x ∈ X.take k, Le R x y0 := fun x hx => by
    have t := t1 x hx
    unfold farB at t
    show R y0 x = false
    simpa using t
  have high : ∀ x ∈ X.drop k, Le R y0 x := fun x hx => by
    have t := t2 x hx
    unfold farB at t
    exact C.as y0 x oy0 (oX x (List.mem_of_mem_drop hx)) (by simpa using t)
  have lowY : ∀ x ∈ X.take k, ∀ y ∈ Y, Le R x y := fun x hx y hy => C.tr x y0 y (oX x (List.mem_of_mem_take hx)) oy0 (oY y hy) (low x hx) (y0Y y hy)
  by_cases z : n - k = 0
  · rw [if_pos (by simpa using z)]
    have ek : k = n := by omega
    refine wpS_pure (h _ hk hf rfl (by rw [hc]) (fun i _ => by rw [hc]) ?_)
    show RS R (arrOf st) l (n + m)
    rw [hc]
    unfold RS
    rw [allXY]
    refine List.pairwise_append.mpr ⟨sX, sY, fun x hx y hy => lowY x ?_ y hy⟩
    rw [List.take_of_length_le (by omega)]
    exact hx
  rw [if_neg (by simpa using z)]
  -- the last of the first
  have hXne : X ≠ [] := fun q => by rw [q] at lx; simp at lx; omega
  have gxl : c[l + k + (n - k) - 1]? = some (X.getLast hXne) := by
    rw [show l + k + (n - k) - 1 = l + (n - 1) by omega, ← Array.getElem?_toList, hL, List.append_assoc, List.append_assoc, List.getElem?_append_right (by omega), show l + (n - 1) - P.length = n - 1 by omega, List.getElem?_append_left (by omega), ← lx, ← List.getLast?_eq_getElem?, List.getLast?_eq_some_getLast]
  generalize hxl : X.getLast hXne = xl at gxl
  have mxl : xl ∈ X := by rw [← hxl]; exact List.getLast_mem hXne
  have oxl := oX xl mxl
  have Xxl : ∀ x ∈ X, Le R x xl := fun x hx => by
    obtain ⟨i, hi, e⟩ := List.getElem_of_mem hx
    by_cases q : i = X.length - 1
    · have : x = xl := by rw [← e, ← hxl, List.getLast_eq_getElem]; simp [q]
      rw [this]; exact C.re oxl
    · refine pw_at sX (i := i) (j := X.length - 1) (by omega) (by rw [List.getElem?_eq_getElem hi, e]) ?_
      rw [← List.getLast?_eq_getElem?, List.getLast?_eq_some_getLast hXne, hxl]
  refine wpS_bind (wpS_elem gxl ?_)
  refine wpS_bind (wpS_galS (d := r) (n := m) (hint := m - 1) C hk oxl oa hz (fun i j x y hi hij hj hx hy => s2.at hi hij hj hx hy) (by omega) fun k2 hk2 t3 t4 => ?_)
  rw [eY] at t4
  have eY1 : (c.toList.drop r).take k2 = Y.take k2 := by
    rw [← eY, List.take_take, Nat.min_eq_left hk2]
  rw [eY1] at t3
  dsimp only
  have lo2 : ∀ y ∈ Y.take k2, Le R y xl := fun y hy => by
    have t := t3 y hy
    unfold farB at t
    exact C.as y xl (oY y (List.mem_of_mem_take hy)) oxl (by simpa using t)
  have hi2 : ∀ y ∈ Y.drop k2, Le R xl y := fun y hy => by
    have t := t4 y hy
    unfold farB at t
    show R y xl = false
    simpa using t
  have hi2X : ∀ x ∈ X, ∀ y ∈ Y.drop k2, Le R x y := fun x hx y hy => C.tr x xl y (oX x hx) oxl (oY y (List.mem_of_mem_drop hy)) (Xxl x hx) (hi2 y hy)
  by_cases z2 : k2 = 0
  · rw [if_pos (by simpa using z2)]
    refine wpS_pure (h _ hk hf rfl (by rw [hc]) (fun i _ => by rw [hc]) ?_)
    show RS R (arrOf st) l (n + m)
    rw [hc]
    unfold RS
    rw [allXY]
    exact List.pairwise_append.mpr ⟨sX, sY, fun x hx y hy => hi2X x hx y (by rw [z2]; exact hy)⟩
  rw [if_neg (by simpa using z2)]
  have ea : (c.extract (l + k) r).toList = X.drop k := by
    rw [ext_mid, ← eX, ← List.drop_drop, hr]
    congr 1
    rw [List.drop_take, Nat.add_sub_cancel_left]
  have eb : (c.extract r (r + k2)).toList = Y.take k2 := by rw [ext_some, eY1]
  have sza : (c.extract (l + k) r).size = n - k := by rw [← Array.length_toList, ea, List.length_drop, lx]
  have szb : (c.extract r (r + k2)).size = k2 := by rw [← Array.length_toList, eb, List.length_take, ly]; omega
  have M : MH Ok R (c.extract (l + k) r) (c.extract r (r + k2)) := by
    refine ⟨?_, ?_, ?_, ?_⟩
    · rw [ea]; exact fun x hx => oX x (List.mem_of_mem_drop hx)
    · rw [eb]; exact fun y hy => oY y (List.mem_of_mem_take hy)
    · rw [ea]; exact sX.sublist (List.drop_sublist _ _)
    · rw [eb]; exact sY.sublist (List.take_sublist _ _)
  have hl : ∀ x, (c.extract (l + k) r).toList.getLast? = some x → ∀ y ∈ (c.extract r (r + k2)).toList, Le R y x := by
    rw [ea, eb]
    intro x hx y hy
    rw [List.getLast?_drop, if_neg (by omega), List.getLast?_eq_some_getLast hXne, hxl] at hx
    cases hx
    exact lo2 y hy
  have h0 : ∀ y, (c.extract r (r + k2))[0]? = some y → ∀ x ∈ (c.extract (l + k) r).toList, Le R y x := by
    intro y hy x hx
    rw [← Array.getElem?_toList, eb, List.getElem?_take, if_pos (by omega), eY0] at hy
    cases hy
    rw [ea] at hx
    exact high x hx
  -- merged and written
  have fin : ∀ z st', SG (setPending st pend) st' → Good R ((c.extract (l + k) r).toList ++ (c.extract r (r + k2)).toList) z → wpS (model prog w) A E s (do
      modify fun u => setArr u (wr (arrOf u) (l + k) z.toList)
      return (failedOf (← get)).isNone) Q st' := by
    intro z st' hs hg
    rw [ea, eb] at hg
    obtain ⟨gp, gs⟩ := hg
    have zl : z.toList.length = (n - k) + k2 := by rw [gp.length_eq, List.length_append, List.length_drop, List.length_take]; omega
    have hka : arrOf st' = c := hs.a.trans hc
    refine wpS_bind (wpS_modify (wpS_bind (wpS_get ?_)))
    have hff : failedOf st' = none := hs.f.trans hf
    show wpS _ _ _ _ (pure ((failedOf st').isNone)) _ _
    rw [hff]
    obtain ⟨X1, X2, hX1, hX2, hX⟩ : ∃ X1 X2, X.take k = X1 ∧ X.drop k = X2 ∧ X = X1 ++ X2 := ⟨_, _, rfl, rfl, (List.take_append_drop k X).symm⟩
    obtain ⟨Y1, Y2, hY1, hY2, hY⟩ : ∃ Y1 Y2, Y.take k2 = Y1 ∧ Y.drop k2 = Y2 ∧ Y = Y1 ++ Y2 := ⟨_, _, rfl, rfl, (List.take_append_drop k2 Y).symm⟩
    have lX1 : X1.length = k := by rw [← hX1, List.length_take]; omega
    have lX2 : X2.length = n - k := by rw [← hX2, List.length_drop]; omega
    have lY1 : Y1.length = k2 := by rw [← hY1, List.length_take]; omega
    have lY2 : Y2.length = m - k2 := by rw [← hY2, List.length_drop]; omega
    rw [hX1] at lowY
    rw [hX2, hY1] at gp
    rw [hY2] at hi2X
    have hL2 : c.toList = (P ++ X1) ++ (X2 ++ Y1) ++ (Y2 ++ S) := by
      rw [hL, hX, hY]
      simp
    have eW : (wr c (l + k) z.toList).toList = (P ++ X1) ++ z.toList ++ (Y2 ++ S) := by
      rw [wr_list (by rw [zl]; omega), zl]
      have e1 : c.toList.take (l + k) = P ++ X1 := by
        rw [hL2, List.append_assoc]
        exact List.take_left' (by rw [List.length_append]; omega)
      have e2 : c.toList.drop (l + k + ((n - k) + k2)) = Y2 ++ S := by
        rw [hL2]
        exact List.drop_left' (by rw [List.length_append, List.length_append, List.length_append]; omega)
      rw [e1, e2]
    have gl : (X2 ++ Y1).length = z.toList.length := by rw [zl, List.length_append]; omega
    refine wpS_pure (h _ (hs.k.trans hk) hff hs.p ?_ (fun i hi => ?_) ?_)
    · show (wr (arrOf st') (l + k) z.toList).toList.Perm c.toList
      rw [hka, eW, hL2]
      exact List.Perm.append_right _ (List.Perm.append_left _ gp)
    · show (wr (arrOf st') (l + k) z.toList)[i]? = c[i]?
      rw [hka, ← Array.getElem?_toList, ← Array.getElem?_toList, eW, hL2]
      refine app3_out gl.symm ?_
      rw [List.length_append, ← gl, List.length_append]
      omega
    · show RS R (wr (arrOf st') (l + k) z.toList) l (n + m)
      rw [hka]
      unfold RS
      rw [seg (P := P) (B := X1 ++ z.toList ++ Y2) (S := S) (by rw [eW]; simp) lp (by rw [List.length_append, List.length_append, ← gl, List.length_append]; omega)]
      have mz : ∀ v ∈ z.toList, v ∈ X2 ∨ v ∈ Y1 := fun v hv => List.mem_append.mp (gp.mem_iff.mp hv)
      have inX2 : ∀ {v}, v ∈ X2 → v ∈ X := fun {v} hv => by rw [hX]; exact List.mem_append_right _ hv
      have inY1 : ∀ {v}, v ∈ Y1 → v ∈ Y := fun {v} hv => by rw [hY]; exact List.mem_append_left _ hv
      have inY2 : ∀ {v}, v ∈ Y2 → v ∈ Y := fun {v} hv => by rw [hY]; exact List.mem_append_right _ hv
      rw [hX] at sX
      rw [hY] at sY
      obtain ⟨sx1, sx2, sx3⟩ := List.pairwise_append.mp sX
      obtain ⟨sy1, sy2, sy3⟩ := List.pairwise_append.mp sY
      refine List.pairwise_append.mpr ⟨List.pairwise_append.mpr ⟨sx1, gs, fun x hx v hv => ?_⟩, sy2, fun v hv y hy => ?_⟩
      · rcases mz v hv with hv | hv
        · exact sx3 x hx v hv
        · exact lowY x hx v (inY1 hv)
      · rcases List.mem_append.mp hv with hv | hv
        · exact lowY v hv y (inY2 hy)
        · rcases mz v hv with hv | hv
          · exact hi2X v (inX2 hv) y hy
          · exact sy3 v hv y hy
  split
  · exact wpS_bind (wpS_mlo C M hk hl (by omega) (by omega) h0 fun z st' hs hg => fin z st' hs hg)
  · exact wpS_bind (wpS_mhi C M hk hl (by omega) (by omega) h0 fun z st' hs hg => fin z st' hs hg)
end
end TS

set_option Elab.async false
set_option linter.all false
set_option maxRecDepth 100000
namespace TS
open PySem PyProof.Rows
abbrev C1 := Option (Option Nat) × Nat
abbrev C2 := Option (Option Nat) × Nat × Nat
def ascG (lo a nrem : Nat) : StateT SortSt Sem C1 :=
  forIn [a:nrem] ((none, a) : C1) fun _ (_, n) => do
    let r ← ltAt' (lo + n) (lo + n - 1)
    match r with
    | some z => if z then pure (.done (none, n)) else pure (.yield (none, n + 1))
    | _ => pure (.done (some none, n))
def tailG (lo n nrem : Nat) : StateT SortSt Sem (Option Nat) := do
  reverseSlice' lo (lo + n)
  let c ← ascG lo n nrem
  match c.1 with
  | some r => pure r
  | none => pure (some c.2)
def descG (lo n nrem : Nat) : StateT SortSt Sem C2 :=
  forIn [n:nrem] ((none, n, 0) : C2) fun _ (_, n, q) => do
    let r ← ltAt' (lo + n) (lo + n - 1)
    match r with
    | some z =>
      if z then
        if q > 0 then do
          reverseSlice' (lo + n - (q + 1)) (lo + n)
          pure (.yield (none, n + 1, 0))
        else pure (.yield (none, n + 1, 0))
      else do
        let r ← ltAt' (lo + n - 1) (lo + n)
        match r with
        | some z => if z then pure (.done (none, n, q)) else pure (.yield (none, n + 1, q + 1))
        | _ => pure (.done (some none, n, q))
    | _ => pure (.done (some none, n, q))
def dpG (lo n nrem : Nat) : StateT SortSt Sem (Option Nat) := do
  liftM (rule "list.sort.descending-run")
  let c ← descG lo (n + 1) nrem
  match c.1 with
  | some r => pure r
  | none =>
    if c.2.2 > 0 then do
      reverseSlice' (lo + c.2.1 - (c.2.2 + 1)) (lo + c.2.1)
      tailG lo c.2.1 nrem
    else tailG lo c.2.1 nrem
theorem countG_eq (lo nrem : Nat) : countRun' lo nrem = (do
  let c ← ascG lo 1 nrem
  match c.1 with
  | some r => pure r
  | none =>
    if c.2 == nrem then pure (some c.2)
    else if c.2 > 1 then do
      let r ← ltAt' lo (lo + c.2 - 1)
      match r with
      | some z => if z then pure (some c.2) else do
          reverseSlice' lo (lo + c.2)
          dpG lo c.2 nrem
      | _ => pure none
    else dpG lo c.2 nrem) := by
  have e0 : countRun' lo nrem = (do
    let mut n := 1
    for _ in [1:nrem] do
      let some z ← ltAt' (lo + n) (lo + n - 1) | return none
      if z then break
      n := n + 1
    if n == nrem then return some n
    if n > 1 then
      let some z ← ltAt' lo (lo + n - 1) | return none
      if z then return some n
      reverseSlice' lo (lo + n)
    liftM (rule "list.sort.descending-run")
    n := n + 1
    let mut q := 0
    for _ in [n:nrem] do
      let some z ← ltAt' (lo + n) (lo + n - 1) | return none
      if z then
        if q > 0 then reverseSlice' (lo + n - (q + 1)) (lo + n)
        q := 0
      else
        let some z ← ltAt' (lo + n - 1) (lo + n) | return none
        if z then break
        q := q + 1
      n := n + 1
    if q > 0 then reverseSlice' (lo + n - (q + 1)) (lo + n)
    reverseSlice' lo (lo + n)
    for _ in [n:nrem] do
      let some z ← ltAt' (lo + n) (lo + n - 1) | return none
      if z then break
      n := n + 1
    return some n) := rfl
  rw [e0]
  refine congrArg (fun f => ascG lo 1 nrem >>= f) ?_
  funext c
  obtain ⟨r, n⟩ := c
  cases r with
  | some r => rfl
  | none =>
    dsimp only
    split
    · rfl
    · split
      · refine congrArg (fun f => ltAt' lo (lo + n - 1) >>= f) ?_
        funext x
        cases x with
        | none => rfl
        | some z =>
          dsimp only
          split
          · rfl
          · refine congrArg (fun f => reverseSlice' lo (lo + n) >>= f) ?_
            funext _
            refine congrArg (fun f => (liftM (rule "list.sort.descending-run") : StateT SortSt Sem Unit) >>= f) ?_
            funext _
            refine congrArg (fun f => descG lo (n + 1) nrem >>= f) ?_
            funext c
            obtain ⟨r, n, q⟩ := c
            cases r with
            | some r => rfl
            | none =>
              dsimp only
              split
              · refine congrArg (fun f => reverseSlice' (lo + n - (q + 1)) (lo + n) >>= f) ?_
                funext _
                refine congrArg (fun f => reverseSlice' lo (lo + n) >>= f) ?_
                funext _
                refine congrArg (fun f => ascG lo n nrem >>= f) ?_
                funext c
                obtain ⟨r, n⟩ := c
                cases r <;> rfl
              · refine congrArg (fun f => reverseSlice' lo (lo + n) >>= f) ?_
                funext _
                refine congrArg (fun f => ascG lo n nrem >>= f) ?_
                funext c
                obtain ⟨r, n⟩ := c
                cases r <;> rfl
      · refine congrArg (fun f => (liftM (rule "list.sort.descending-run") : StateT SortSt Sem Unit) >>= f) ?_
        funext _
        refine congrArg (fun f => descG lo (n + 1) nrem >>= f) ?_
        funext c
        obtain ⟨r, n, q⟩ := c
        cases r with
        | some r => rfl
        | none =>
          dsimp only
          split
          · refine congrArg (fun f => reverseSlice' (lo + n - (q + 1)) (lo + n) >>= f) ?_
            funext _
            refine congrArg (fun f => reverseSlice' lo (lo + n) >>= f) ?_
            funext _
            refine congrArg (fun f => ascG lo n nrem >>= f) ?_
            funext c
            obtain ⟨r, n⟩ := c
            cases r <;> rfl
          · refine congrArg (fun f => reverseSlice' lo (lo + n) >>= f) ?_
            funext _
            refine congrArg (fun f => ascG lo n nrem >>= f) ?_
            funext c
            obtain ⟨r, n⟩ := c
            cases r <;> rfl
end TS

set_option Elab.async false
set_option linter.all false
set_option maxRecDepth 100000
namespace TS
open PySem PyProof.Rows
def SR (R : Keyed → Keyed → Bool) (c : Array Keyed) (lo n : Nat) : Prop := ∀ i j x y, lo ≤ i → i < j → j < lo + n → c[i]? = some x → c[j]? = some y → Le R x y
def DR (R : Keyed → Keyed → Bool) (c : Array Keyed) (lo n : Nat) : Prop := ∀ i j x y, lo ≤ i → i < j → j < lo + n → c[i]? = some x → c[j]? = some y → Le R y x
structure Ph (κ : SortKind) (c0 : Array Keyed) (pd : Array (Nat × Nat × Nat)) (st : SortSt) : Prop where
  k : kindOf st = κ
  f : failedOf st = none
  p : pendingOf st = pd
  pm : (arrOf st).Perm c0
structure Un (Ok : Keyed → Prop) (R : Keyed → Keyed → Bool) (c0 : Array Keyed) : Prop where
  ok : ∀ x ∈ c0.toList, Ok x
  nd : c0.toList.Nodup
  tot : ∀ x y, Ok x → Ok y → x ≠ y → R x y = false → R y x = true
section
variable {prog : Program} {w : World} {A : Around} {E : Value → Shared → Prop} {s : Shared} {κ : SortKind} {Ok : Keyed → Prop} {R : Keyed → Keyed → Bool} {st : SortSt} {c0 : Array Keyed} {pd : Array (Nat × Nat × Nat)} {lo : Nat}
theorem Ph.size (P : Ph κ c0 pd st) : (arrOf st).size = c0.size := P.pm.size_eq
theorem Ph.setArr (P : Ph κ c0 pd st) {xs : Array Keyed} (hp : xs.Perm (arrOf st)) : Ph κ c0 pd (setArr st xs) := ⟨P.k, P.f, P.p, hp.trans P.pm⟩
theorem Ph.lp (P : Ph κ c0 pd st) : (arrOf st).toList.Perm c0.toList := Array.perm_iff_toList_perm.mp P.pm
theorem Ph.oks (P : Ph κ c0 pd st) (U : Un Ok R c0) : ∀ x ∈ (arrOf st).toList, Ok x := fun x hx => U.ok x (P.lp.mem_iff.mp hx)
theorem Ph.at (P : Ph κ c0 pd st) (U : Un Ok R c0) {i : Nat} (hi : i < c0.size) : ∃ x, (arrOf st)[i]? = some x ∧ Ok x := by
  obtain ⟨x, e, _, hx⟩ := at_drop (a := arrOf st) (i := i) (by rw [P.size]; exact hi)
  exact ⟨x, e, P.oks U x hx⟩
theorem Ph.ne (P : Ph κ c0 pd st) (U : Un Ok R c0) {i j : Nat} {x y : Keyed} (hij : i ≠ j) (hx : (arrOf st)[i]? = some x) (hy : (arrOf st)[j]? = some y) : x ≠ y := fun z => by
  subst z
  rw [← Array.getElem?_toList] at hx hy
  exact hij ((List.getElem?_inj (List.getElem?_eq_some_iff.mp hx).1 (P.lp.nodup_iff.mpr U.nd)).mp (hx.trans hy.symm))
theorem wpS_ltAt2 {Q : Option Bool → SortSt → Prop} {i j : Nat} {x y : Keyed} (C : Cmp prog w A s κ Ok R) (hk : kindOf st = κ) (hi : (arrOf st)[i]? = some x) (hj : (arrOf st)[j]? = some y) (ox : Ok x) (oy : Ok y) (h : Q (some (R x y)) st) : wpS (model prog w) A E s (ltAt' i j) Q st := by
  rw [ltAt'_eq]
  refine wpS_bind (wpS_get ?_)
  show wpS _ _ _ _ (do let x ← elem' (arrOf st) i; let y ← elem' (arrOf st) j; lt' x y) Q st
  exact wpS_bind (wpS_elem hi (wpS_bind (wpS_elem hj (wpS_lt' C hk ox oy h))))
theorem SR.one {c : Array Keyed} : SR R c lo 1 := fun i j x y h1 h2 h3 => by omega
theorem SR.grow {c : Array Keyed} {n : Nat} {x y : Keyed} (C : Cmp prog w A s κ Ok R) (oc : ∀ x ∈ c.toList, Ok x) (h : SR R c lo n) (h1 : 1 ≤ n) (hx : c[lo + n]? = some x) (hy : c[lo + n - 1]? = some y) (l : Le R y x) : SR R c lo (n + 1) := by
  intro i j u v hi hij hj hu hv
  by_cases z : j < lo + n
  · exact h i j u v hi hij z hu hv
  · have ej : j = lo + n := by omega
    subst ej
    rw [hx] at hv
    cases hv
    by_cases z2 : i = lo + n - 1
    · subst z2; rw [hy] at hu; cases hu; exact l
    · exact C.tr u y x (ok_at oc hu) (ok_at oc hy) (ok_at oc hx) (h i (lo + n - 1) u y hi (by omega) (by omega) hu hy) l
theorem DR.grow {c : Array Keyed} {n : Nat} {x y : Keyed} (C : Cmp prog w A s κ Ok R) (oc : ∀ x ∈ c.toList, Ok x) (h : DR R c lo n) (h1 : 1 ≤ n) (hx : c[lo + n]? = some x) (hy : c[lo + n - 1]? = some y) (l : Le R x y) : DR R c lo (n + 1) := by
  intro i j u v hi hij hj hu hv
  by_cases z : j < lo + n
  · exact h i j u v hi hij z hu hv
  · have ej : j = lo + n := by omega
    subst ej
    rw [hx] at hv
    cases hv
    by_cases z2 : i = lo + n - 1
    · subst z2; rw [hy] at hu; cases hu; exact l
    · exact C.tr x y u (ok_at oc hx) (ok_at oc hy) (ok_at oc hu) l (h i (lo + n - 1) u y hi (by omega) (by omega) hu hy)
theorem wpS_ascG {Q : C1 → SortSt → Prop} {a nrem : Nat} (C : Cmp prog w A s κ Ok R) (U : Un Ok R c0) (P : Ph κ c0 pd st) (ha : 1 ≤ a) (han : a ≤ nrem) (hz : lo + nrem ≤ c0.size) (hs : SR R (arrOf st) lo a)
    (h : ∀ n, a ≤ n → n ≤ nrem → SR R (arrOf st) lo n → (n = nrem ∨ ∃ x y, (arrOf st)[lo + n]? = some x ∧ (arrOf st)[lo + n - 1]? = some y ∧ R x y = true) → Q (none, n) st) : wpS (model prog w) A E s (ascG lo a nrem) Q st := by
  unfold ascG
  refine wpS_forRange (I := fun x c st' => st' = st ∧ c = (none, x) ∧ SR R (arrOf st) lo x) ?step ?fin ⟨rfl, rfl, hs⟩
  case fin =>
    rintro c st' ⟨rfl, rfl, hs'⟩
    rw [show max a nrem = nrem by omega] at hs' ⊢
    exact h nrem han (Nat.le_refl _) hs' (.inl rfl)
  case step =>
    rintro n c st' hax hxn ⟨rfl, rfl, hs'⟩
    dsimp only
    obtain ⟨x, ex, ox⟩ := P.at U (i := lo + n) (by omega)
    obtain ⟨y, ey, oy⟩ := P.at U (i := lo + n - 1) (by omega)
    refine wpS_bind (wpS_ltAt2 C P.k ex ey ox oy ?_)
    cases hr : R x y with
    | true =>
      simp only [if_true]
      exact wpS_pure (h n hax (by omega) hs' (.inr ⟨x, y, ex, ey, hr⟩))
    | false =>
      simp only [Bool.false_eq_true, if_false]
      exact wpS_pure ⟨rfl, rfl, hs'.grow C (P.oks U) (by omega) ex ey hr⟩
theorem wpS_descG {Q : C2 → SortSt → Prop} {n nrem : Nat} (C : Cmp prog w A s κ Ok R) (U : Un Ok R c0) (P : Ph κ c0 pd st) (ha : 1 ≤ n) (han : n ≤ nrem) (hz : lo + nrem ≤ c0.size) (hs : DR R (arrOf st) lo n)
    (h : ∀ m, n ≤ m → m ≤ nrem → DR R (arrOf st) lo m → Q (none, m, 0) st) : wpS (model prog w) A E s (descG lo n nrem) Q st := by
  unfold descG
  refine wpS_forRange (I := fun x c st' => st' = st ∧ c = (none, x, 0) ∧ DR R (arrOf st) lo x) ?step ?fin ⟨rfl, rfl, hs⟩
  case fin =>
    rintro c st' ⟨rfl, rfl, hs'⟩
    rw [show max n nrem = nrem by omega] at hs' ⊢
    exact h nrem han (Nat.le_refl _) hs'
  case step =>
    rintro m c st' hax hxn ⟨rfl, rfl, hs'⟩
    dsimp only
    obtain ⟨x, ex, ox⟩ := P.at U (i := lo + m) (by omega)
    obtain ⟨y, ey, oy⟩ := P.at U (i := lo + m - 1) (by omega)
    refine wpS_bind (wpS_ltAt2 C P.k ex ey ox oy ?_)
    cases hr : R x y with
    | true =>
      simp only [if_true]
      rw [if_neg (by omega)]
      exact wpS_pure ⟨rfl, rfl, hs'.grow C (P.oks U) (by omega) ex ey (C.as x y ox oy hr)⟩
    | false =>
      simp only [Bool.false_eq_true, if_false]
      refine wpS_bind (wpS_ltAt2 C P.k ey ex oy ox ?_)
      rw [U.tot x y ox oy (P.ne U (by omega) ex ey) hr]
      simp only [if_true]
      exact wpS_pure (h m hax (by omega) hs')
theorem wpS_rev {Q : Unit → SortSt → Prop} {n : Nat} (U : Un Ok R c0) (P : Ph κ c0 pd st) (hz : lo + n ≤ c0.size) (hd : DR R (arrOf st) lo n)
    (h : ∀ st', Ph κ c0 pd st' → (∀ i, i < lo ∨ lo + n ≤ i → (arrOf st')[i]? = (arrOf st)[i]?) → SR R (arrOf st') lo n → Q () st') : wpS (model prog w) A E s (reverseSlice' lo (lo + n)) Q st := by
  rw [reverseSlice'_eq]
  refine wpS_modify ?_
  have hm : ∀ k, (mirror (arrOf st) lo (lo + n) ((lo + n - lo) / 2))[k]? = if lo ≤ k ∧ k < lo + n then (arrOf st)[lo + (lo + n) - 1 - k]? else (arrOf st)[k]? := fun k => getElem?_mirror_all (by rw [P.size]; exact hz) k
  refine h _ (P.setArr (mirror_perm _ _ _ _)) (fun i hi => ?_) fun i j x y hi hij hj hx hy => ?_
  · show (mirror (arrOf st) lo (lo + n) ((lo + n - lo) / 2))[i]? = _
    rw [hm, if_neg (by omega)]
  · have hx' : (mirror (arrOf st) lo (lo + n) ((lo + n - lo) / 2))[i]? = some x := hx
    have hy' : (mirror (arrOf st) lo (lo + n) ((lo + n - lo) / 2))[j]? = some y := hy
    rw [hm, if_pos (by omega)] at hx' hy'
    exact hd _ _ y x (by omega) (by omega) (by omega) hy' hx'
theorem wpS_tailG {Q : Option Nat → SortSt → Prop} {n nrem : Nat} (C : Cmp prog w A s κ Ok R) (U : Un Ok R c0) (P : Ph κ c0 pd st) (h1 : 1 ≤ n) (hn : n ≤ nrem) (hz : lo + nrem ≤ c0.size) (hd : DR R (arrOf st) lo n)
    (h : ∀ m st', Ph κ c0 pd st' → 1 ≤ m → m ≤ nrem → (∀ i, i < lo ∨ lo + nrem ≤ i → (arrOf st')[i]? = (arrOf st)[i]?) → SR R (arrOf st') lo m → Q (some m) st') : wpS (model prog w) A E s (tailG lo n nrem) Q st := by
  unfold tailG
  refine wpS_bind (wpS_rev U P (by omega) hd fun st' P' out hs => ?_)
  refine wpS_bind (wpS_ascG C U P' h1 hn hz hs fun m hm1 hm2 hs' _ => ?_)
  exact wpS_pure (h m st' P' (by omega) hm2 (fun i hi => out i (by omega)) hs')
theorem wpS_count {Q : Option Nat → SortSt → Prop} {nrem : Nat} (C : Cmp prog w A s κ Ok R) (U : Un Ok R c0) (P : Ph κ c0 pd st) (h1 : 1 ≤ nrem) (hz : lo + nrem ≤ c0.size)
    (h : ∀ m st', Ph κ c0 pd st' → 1 ≤ m → m ≤ nrem → (∀ i, i < lo ∨ lo + nrem ≤ i → (arrOf st')[i]? = (arrOf st)[i]?) → SR R (arrOf st') lo m → Q (some m) st') : wpS (model prog w) A E s (countRun' lo nrem) Q st := by
  rw [countG_eq]
  refine wpS_bind (wpS_ascG C U P (Nat.le_refl 1) h1 hz SR.one fun n hn1 hn2 hs ho => ?_)
  dsimp only
  by_cases z : n = nrem
  · rw [if_pos (by simpa using z)]
    exact wpS_pure (h n st P hn1 hn2 (fun _ _ => rfl) hs)
  rw [if_neg (by simpa using z)]
  by_cases z1 : n > 1
  · rw [if_pos z1]
    obtain ⟨x, ex, ox⟩ := P.at U (i := lo) (by omega)
    obtain ⟨y, ey, oy⟩ := P.at U (i := lo + n - 1) (by omega)
    refine wpS_bind (wpS_ltAt2 C P.k ex ey ox oy ?_)
    have l : Le R x y := hs lo (lo + n - 1) x y (Nat.le_refl _) (by omega) (by omega) ex ey
    have t : R x y = true := U.tot y x oy ox (P.ne U (by omega) ey ex) l
    rw [t]
    simp only [if_true]
    exact wpS_pure (h n st P hn1 hn2 (fun _ _ => rfl) hs)
  · rw [if_neg z1]
    have e1 : n = 1 := by omega
    subst e1
    obtain ⟨x, y, ex, ey, hr⟩ := ho.resolve_left z
    unfold dpG
    refine wpS_bind (wpS_lift (wpAny_rule ⟨rfl, ?_⟩))
    have d1 : DR R (arrOf st) lo 1 := fun i j x y h1 h2 h3 => by omega
    refine wpS_bind (wpS_descG C U P (by omega) (by omega) hz (d1.grow C (P.oks U) (Nat.le_refl 1) ex ey (C.as x y (ok_at (P.oks U) ex) (ok_at (P.oks U) ey) hr)) fun m hm1 hm2 hd => ?_)
    dsimp only
    rw [if_neg (by omega)]
    exact wpS_tailG C U P (by omega) hm2 hz hd h
theorem bsG_eq (lo n ok : Nat) : binarySort' lo n ok = (do
  for k in [max ok 1 : n] do
    let mut a := 0
    let mut b := k
    for _ in [0:k] do
      if a ≥ b then break
      let some z ← ltAt' (lo + k) (lo + (a + b) / 2) | return false
      if z then b := (a + b) / 2 else a := (a + b) / 2 + 1
    moveDown' (lo + k) (lo + a)
  return true) := rfl
theorem wpS_bin {Q : Bool → SortSt → Prop} {n ok : Nat} (C : Cmp prog w A s κ Ok R) (U : Un Ok R c0) (P : Ph κ c0 pd st) (hok : ok ≤ n) (hz : lo + n ≤ c0.size) (hs : SR R (arrOf st) lo ok)
    (h : ∀ st', Ph κ c0 pd st' → (∀ i, i < lo ∨ lo + n ≤ i → (arrOf st')[i]? = (arrOf st)[i]?) → SR R (arrOf st') lo n → Q true st') : wpS (model prog w) A E s (binarySort' lo n ok) Q st := by
  rw [bsG_eq]
  refine wpS_bind (wpS_mono (wpS_forRange (I := fun k c st' => c = (none, ()) ∧ Ph κ c0 pd st' ∧ (∀ i, i < lo ∨ lo + n ≤ i → (arrOf st')[i]? = (arrOf st)[i]?) ∧ SR R (arrOf st') lo (min k n))
    (Q := fun c st' => c = (none, ()) ∧ Ph κ c0 pd st' ∧ (∀ i, i < lo ∨ lo + n ≤ i → (arrOf st')[i]? = (arrOf st)[i]?) ∧ SR R (arrOf st') lo n) ?step ?fin ?init) ?post)
  case post =>
    rintro c st' ⟨rfl, P', out, hs'⟩
    exact wpS_pure (h st' P' out hs')
  case init =>
    refine ⟨rfl, P, fun _ _ => rfl, fun i j x y hi hij hj hx hy => ?_⟩
    by_cases h1 : ok = 0
    · omega
    · exact hs i j x y hi hij (by omega) hx hy
  case fin =>
    rintro c st' ⟨hc, P', out, hs'⟩
    refine ⟨hc, P', out, ?_⟩
    rwa [show min (max (max ok 1) n) n = n by omega] at hs'
  case step =>
    rintro k c st' hak hkn ⟨rfl, P', out, hs'⟩
    rw [show min k n = k by omega] at hs'
    obtain ⟨v, ev, ov⟩ := P'.at U (i := lo + k) (by omega)
    refine wpS_bind (wpS_mono (wpS_forRange (I := fun x c st'' => st'' = st' ∧ ∃ l r, c = (none, l, r) ∧ l ≤ r ∧ r ≤ k ∧ r - l ≤ k - x ∧
        (∀ i u, lo ≤ i → i < lo + l → (arrOf st')[i]? = some u → Le R u v) ∧ (∀ i u, lo + r ≤ i → i < lo + k → (arrOf st')[i]? = some u → Le R v u))
      (Q := fun c st'' => st'' = st' ∧ ∃ l r, c = (none, l, r) ∧ l ≤ k ∧
        (∀ i u, lo ≤ i → i < lo + l → (arrOf st')[i]? = some u → Le R u v) ∧ (∀ i u, lo + l ≤ i → i < lo + k → (arrOf st')[i]? = some u → Le R v u)) ?istep ?ifin ?iinit) ?ipost)
    case iinit => exact ⟨rfl, 0, k, rfl, by omega, by omega, by omega, fun i u h1 h2 => by omega, fun i u h1 h2 => by omega⟩
    case ifin =>
      rintro c st'' ⟨rfl, l, r, rfl, hlr, hrk, hm, hlo, hhi⟩
      have : l = r := by omega
      subst this
      exact ⟨rfl, l, l, rfl, hrk, hlo, hhi⟩
    case istep =>
      rintro x c st'' _ hxk ⟨rfl, l, r, rfl, hlr, hrk, hm, hlo, hhi⟩
      dsimp only
      by_cases hge : l ≥ r
      · rw [if_pos hge]
        have : l = r := by omega
        subst this
        exact wpS_pure ⟨rfl, l, l, rfl, hrk, hlo, hhi⟩
      · rw [if_neg hge]
        obtain ⟨m, em, om⟩ := P'.at U (i := lo + (l + r) / 2) (by omega)
        refine wpS_bind (wpS_ltAt2 C P'.k ev em ov om ?_)
        cases hless : R v m with
        | true =>
          simp only [if_true]
          refine wpS_pure ⟨rfl, l, (l + r) / 2, rfl, by omega, by omega, by omega, hlo, fun i u h1 h2 hu => ?_⟩
          have l1 : Le R v m := C.as v m ov om hless
          by_cases z : i = lo + (l + r) / 2
          · subst z; rw [em] at hu; cases hu; exact l1
          · exact C.tr v m u ov om (ok_at (P'.oks U) hu) l1 (hs' _ _ m u (by omega) (by omega) h2 em hu)
        | false =>
          simp only [Bool.false_eq_true, if_false]
          refine wpS_pure ⟨rfl, (l + r) / 2 + 1, r, rfl, by omega, by omega, by omega, fun i u h1 h2 hu => ?_, hhi⟩
          by_cases z : i = lo + (l + r) / 2
          · subst z; rw [em] at hu; cases hu; exact hless
          · exact C.tr u m v (ok_at (P'.oks U) hu) om ov (hs' _ _ u m h1 (by omega) (by omega) hu em) hless
    case ipost =>
      rintro c st'' ⟨rfl, l, r, rfl, hlk, hlo, hhi⟩
      show wpS _ _ _ _ (do moveDown' (lo + k) (lo + l); pure (ForInStep.yield (none, ()))) _ _
      rw [moveDown'_eq]
      have hks : lo + k < (arrOf st'').size := by rw [P'.size]; omega
      have hb : ∀ i, (bubble (arrOf st'') (lo + k) (lo + k - (lo + l)))[i]? = if i = lo + l then (arrOf st'')[lo + k]? else if lo + l < i ∧ i ≤ lo + k then (arrOf st'')[i - 1]? else (arrOf st'')[i]? := fun i => by
        have := getElem?_bubble hks (lo + k - (lo + l)) (by omega) i
        rw [show lo + k - (lo + k - (lo + l)) = lo + l by omega] at this
        exact this
      refine wpS_bind (wpS_modify (wpS_pure ⟨rfl, P'.setArr (bubble_perm _ _ _), fun i hi => ?_, ?_⟩))
      · show (bubble (arrOf st'') (lo + k) (lo + k - (lo + l)))[i]? = _
        rw [hb, if_neg (by omega), if_neg (by omega)]
        exact out i hi
      · rw [show min (k + 1) n = k + 1 by omega]
        intro i j x y hi hij hj hx hy
        have hx' : (bubble (arrOf st'') (lo + k) (lo + k - (lo + l)))[i]? = some x := hx
        have hy' : (bubble (arrOf st'') (lo + k) (lo + k - (lo + l)))[j]? = some y := hy
        rw [hb] at hx' hy'
        by_cases zi : i = lo + l
        · rw [if_pos zi, ev] at hx'
          cases hx'
          rw [if_neg (by omega), if_pos (by omega)] at hy'
          exact hhi (j - 1) y (by omega) (by omega) hy'
        · rw [if_neg zi] at hx'
          by_cases zj : j = lo + l
          · rw [if_pos zj, ev] at hy'
            cases hy'
            rw [if_neg (by omega)] at hx'
            exact hlo i x hi (by omega) hx'
          · rw [if_neg zj] at hy'
            by_cases zi2 : lo + l < i ∧ i ≤ lo + k
            · rw [if_pos zi2] at hx'
              rw [if_pos (by omega)] at hy'
              exact hs' (i - 1) (j - 1) x y (by omega) (by omega) (by omega) hx' hy'
            · rw [if_neg zi2] at hx'
              by_cases zj2 : lo + l < j ∧ j ≤ lo + k
              · rw [if_pos zj2] at hy'
                by_cases q : i = j - 1
                · omega
                · exact hs' i (j - 1) x y hi (by omega) (by omega) hx' hy'
              · rw [if_neg zj2] at hy'
                exact hs' i j x y hi hij (by omega) hx' hy'
end
end TS

set_option Elab.async false
set_option linter.all false
set_option maxRecDepth 100000
namespace TS
open PySem PyProof.Rows
abbrev U1 := Option Unit × Unit
abbrev U2 := Option Unit × Nat
def mgG (pw size : Nat) : StateT SortSt Sem U1 :=
  forIn [0:size] ((none, ()) : U1) fun _ _ => do
    let u ← get
    match (if (pendingOf u).size > 1 then (pendingOf u)[(pendingOf u).size - 2]? else none) with
    | some (_, _, od) =>
      if od ≤ pw then pure (.done (none, ()))
      else do
        let z ← mergeAt' ((pendingOf u).size - 2)
        if !z then pure (.done (some (), ())) else pure (.yield (none, ()))
    | _ => pure (.done (none, ()))
def addG (size lo n : Nat) : StateT SortSt Sem (ForInStep U2) := do
  let u ← get
  match (pendingOf u).back? with
  | some (l1, n1, _) => do
    let c ← mgG (power' size (2 * l1 + n1) (2 * l1 + n1 + n1 + n) size) size
    match c.1 with
    | some r => pure (.done (some r, lo))
    | none => do
      modify fun s => setPending s ((pendingOf s).modify ((pendingOf s).size - 1) fun x => (x.1, x.2.1, power' size (2 * l1 + n1) (2 * l1 + n1 + n1 + n) size))
      modify fun s => setPending s ((pendingOf s).push (lo, n, 0))
      pure (.yield (none, lo + n))
  | _ => do
    modify fun s => setPending s ((pendingOf s).push (lo, n, 0))
    pure (.yield (none, lo + n))
def runG (size lo : Nat) : StateT SortSt Sem (ForInStep U2) :=
  if lo ≥ size then pure (.done (none, lo))
  else do
    let r ← countRun' lo (size - lo)
    match r with
    | some n =>
      if n < minRun' size size 0 then do
        liftM (rule "list.sort.binary-insertion")
        let z ← binarySort' lo (min (size - lo) (minRun' size size 0)) n
        if !z then pure (.done (some (), lo)) else addG size lo (min (size - lo) (minRun' size size 0))
      else addG size lo n
    | _ => pure (.done (some (), lo))
def pickG (p : Array (Nat × Nat × Nat)) : Nat :=
  if Option.any (fun x => decide (x < p[p.size - 2 + 1]?.elim 0 fun x => x.2.1)) (if p.size - 2 > 0 then Option.map (fun x => x.2.1) p[p.size - 2 - 1]? else none) = true then p.size - 2 - 1 else p.size - 2
def endG (size : Nat) : StateT SortSt Sem U1 :=
  forIn [0:size] ((none, ()) : U1) fun _ _ => do
    let u ← get
    if (pendingOf u).size ≤ 1 then pure (.done (none, ()))
    else do
      let z ← mergeAt' (pickG (pendingOf u))
      if !z then pure (.done (some (), ())) else pure (.yield (none, ()))
theorem sortG_eq : sortRuns' = (do
  let u ← get
  let c ← (forIn [0:(arrOf u).size] ((none, 0) : U2) fun _ c => runG (arrOf u).size c.2)
  match c.1 with
  | some r => pure r
  | none => do
    let d ← endG (arrOf u).size
    match d.1 with
    | some r => pure r
    | none => pure ()) := by
  rw [sortRuns'_eq]
  refine congrArg (fun f => (get : StateT SortSt Sem SortSt) >>= f) ?_
  funext u
  dsimp only
  refine congrArg (fun m => m >>= _) ?_ |>.trans (congrArg (fun f => _ >>= f) ?_)
  · congr 1
    funext x c
    obtain ⟨c0, lo⟩ := c
    dsimp only
    unfold runG
    split
    · rfl
    · refine congrArg (fun f => countRun' lo ((arrOf u).size - lo) >>= f) ?_
      funext r
      cases r with
      | none => rfl
      | some n =>
        dsimp only
        split
        · refine congrArg (fun f => (liftM (rule "list.sort.binary-insertion") : StateT SortSt Sem Unit) >>= f) ?_
          funext _
          refine congrArg (fun f => binarySort' lo (min ((arrOf u).size - lo) (minRun' (arrOf u).size (arrOf u).size 0)) n >>= f) ?_
          funext z
          cases z with
          | false => rfl
          | true =>
            simp only [Bool.not_true, Bool.false_eq_true, if_false]
            unfold addG
            refine congrArg (fun f => (get : StateT SortSt Sem SortSt) >>= f) ?_
            funext v
            cases hb : (pendingOf v).back? with
            | none => rfl
            | some p =>
              obtain ⟨l1, n1, e1⟩ := p
              dsimp only
              refine congrArg (fun m => m >>= _) ?_ |>.trans (congrArg (fun f => _ >>= f) ?_)
              · unfold mgG
                congr 1
              · funext c
                obtain ⟨r, q⟩ := c
                cases r <;> rfl
        · unfold addG
          refine congrArg (fun f => (get : StateT SortSt Sem SortSt) >>= f) ?_
          funext v
          cases hb : (pendingOf v).back? with
          | none => rfl
          | some p =>
            obtain ⟨l1, n1, e1⟩ := p
            dsimp only
            refine congrArg (fun m => m >>= _) ?_ |>.trans (congrArg (fun f => _ >>= f) ?_)
            · unfold mgG
              congr 1
            · funext c
              obtain ⟨r, q⟩ := c
              cases r <;> rfl
  · funext c
    obtain ⟨r, lo⟩ := c
    cases r with
    | some r => rfl
    | none =>
      dsimp only
      refine congrArg (fun m => m >>= _) ?_ |>.trans (congrArg (fun f => _ >>= f) ?_)
      · rfl
      · funext d
        obtain ⟨r, q⟩ := d
        cases r <;> rfl
/-! ### runs one behind the other -/
def Chain : Nat → List (Nat × Nat × Nat) → Nat → Prop
  | l0, [], hi => l0 = hi
  | l0, q :: r, hi => q.1 = l0 ∧ 1 ≤ q.2.1 ∧ Chain (l0 + q.2.1) r hi
theorem Chain.le : ∀ {L : List (Nat × Nat × Nat)} {l0 hi : Nat}, Chain l0 L hi → l0 + L.length ≤ hi
  | [], l0, hi, h => by have : l0 = hi := h; simp; omega
  | q :: r, l0, hi, h => by
    have := Chain.le h.2.2
    have := h.2.1
    rw [List.length_cons]
    omega
theorem Chain.app : ∀ {L M : List (Nat × Nat × Nat)} {l0 hi : Nat}, Chain l0 (L ++ M) hi ↔ ∃ m, Chain l0 L m ∧ Chain m M hi
  | [], M, l0, hi => ⟨fun h => ⟨l0, rfl, h⟩, fun ⟨m, h1, h2⟩ => by cases (show l0 = m from h1); exact h2⟩
  | q :: r, M, l0, hi => by
    constructor
    · rintro ⟨a, b, c⟩
      obtain ⟨m, h1, h2⟩ := Chain.app.mp c
      exact ⟨m, ⟨a, b, h1⟩, h2⟩
    · rintro ⟨m, ⟨a, b, c⟩, h2⟩
      exact ⟨a, b, Chain.app.mpr ⟨m, c, h2⟩⟩
theorem Chain.mem : ∀ {L : List (Nat × Nat × Nat)} {l0 hi : Nat}, Chain l0 L hi → ∀ q ∈ L, l0 ≤ q.1 ∧ 1 ≤ q.2.1 ∧ q.1 + q.2.1 ≤ hi
  | q :: r, l0, hi, h, x, hx => by
    have hle := Chain.le h.2.2
    rcases List.mem_cons.mp hx with rfl | hx
    · exact ⟨Nat.le_of_eq h.1.symm, h.2.1, by rw [h.1]; omega⟩
    · have := Chain.mem h.2.2 x hx
      exact ⟨by omega, this.2⟩
theorem RS.congr {R : Keyed → Keyed → Bool} {c c' : Array Keyed} {d n : Nat} (h : RS R c d n) (e : ∀ i, d ≤ i → i < d + n → c'[i]? = c[i]?) : RS R c' d n :=
  RS.of fun i j x y hi hij hj hx hy => h.at hi hij hj (by rw [← e i hi (by omega)]; exact hx) (by rw [← e j (by omega) hj]; exact hy)
structure PI (κ : SortKind) (R : Keyed → Keyed → Bool) (c0 : Array Keyed) (hi : Nat) (st : SortSt) : Prop where
  k : kindOf st = κ
  f : failedOf st = none
  pm : (arrOf st).Perm c0
  ch : Chain 0 (pendingOf st).toList hi
  rs : ∀ q ∈ (pendingOf st).toList, RS R (arrOf st) q.1 q.2.1
section
variable {prog : Program} {w : World} {A : Around} {E : Value → Shared → Prop} {s : Shared} {κ : SortKind} {Ok : Keyed → Prop} {R : Keyed → Keyed → Bool} {st : SortSt} {c0 : Array Keyed} {hi : Nat}
theorem two_at {L : List (Nat × Nat × Nat)} {t : Nat} (h : t + 1 < L.length) : ∃ P x y S, L = P ++ x :: y :: S ∧ P.length = t := by
  refine ⟨L.take t, L[t], L[t + 1], L.drop (t + 2), ?_, by rw [List.length_take]; omega⟩
  rw [← List.drop_eq_getElem_cons (i := t + 1) (by omega), ← List.drop_eq_getElem_cons (i := t) (by omega), List.take_append_drop]
theorem wpS_mgAt {Q : Bool → SortSt → Prop} {t : Nat} (C : Cmp prog w A s κ Ok R) (U : Un Ok R c0) (I : PI κ R c0 hi st) (hz : hi ≤ c0.size) (ht : t + 1 < (pendingOf st).size)
    (h : ∀ st', PI κ R c0 hi st' → (pendingOf st').size + 1 = (pendingOf st).size → (∀ i, hi ≤ i → (arrOf st')[i]? = (arrOf st)[i]?) → Q true st') : wpS (model prog w) A E s (mergeAt' t) Q st := by
  obtain ⟨P, ⟨l, n, e⟩, ⟨r, m, e2⟩, S, hL, hP⟩ := two_at (L := (pendingOf st).toList) (t := t) (by rw [Array.length_toList]; exact ht)
  have ch := I.ch
  rw [hL] at ch
  obtain ⟨mid, c1, c2⟩ := Chain.app.mp ch
  obtain ⟨a1, a2, a3, a4, a5⟩ := c2
  have a1' : l = mid := a1
  have a3' : r = mid + n := a3
  have a2' : 1 ≤ n := a2
  have a4' : 1 ≤ m := a4
  subst a1'
  have cl := Chain.le a5
  have hsz : (arrOf st).size = c0.size := I.pm.size_eq
  have oks : ∀ x ∈ (arrOf st).toList, Ok x := fun x hx => U.ok x ((Array.perm_iff_toList_perm.mp I.pm).mem_iff.mp hx)
  have g1 : (pendingOf st)[t]? = some (l, n, e) := by
    rw [← Array.getElem?_toList, hL, List.getElem?_append_right (by omega), hP, Nat.sub_self]
    rfl
  have g2 : (pendingOf st)[t + 1]? = some (r, m, e2) := by
    rw [← Array.getElem?_toList, hL, List.getElem?_append_right (by omega), hP, Nat.add_sub_cancel_left]
    rfl
  have end5 : l + n + m ≤ hi := by
    have : l + n + m + S.length ≤ hi := cl
    omega
  refine wpS_mergeAt C I.k I.f oks g1 g2 a3' a2' a4' (by rw [hsz]; omega) (I.rs (l, n, e) (by rw [hL]; simp)) (I.rs (r, m, e2) (by rw [hL]; simp)) fun st' k' f' p' pm' out rs' => ?_
  have eL : (pendingOf st').toList = P ++ (l, n + m, e) :: S := by
    rw [p', Array.toList_eraseIdxIfInBounds, Array.toList_setIfInBounds, hL, List.set_append_right _ _ (by omega), hP, Nat.sub_self, List.set_cons_zero, List.eraseIdx_append_of_length_le (by omega), hP, Nat.add_sub_cancel_left]
    rfl
  refine h st' ⟨k', f', (Array.perm_iff_toList_perm.mpr pm').trans I.pm, ?_, fun q hq => ?_⟩ ?_ (fun i hi' => out i (.inr (by omega)))
  · rw [eL]
    refine Chain.app.mpr ⟨l, c1, rfl, Nat.le_trans a2' (Nat.le_add_right _ _), ?_⟩
    show Chain (l + (n + m)) S hi
    rw [← Nat.add_assoc]
    exact a5
  · rw [eL] at hq
    rcases List.mem_append.mp hq with hq | hq
    · have b := Chain.mem c1 q hq
      exact (I.rs q (by rw [hL]; exact List.mem_append_left _ hq)).congr fun i h1 h2 => out i (.inl (by omega))
    · rcases List.mem_cons.mp hq with rfl | hq
      · exact rs'
      · have b := Chain.mem a5 q hq
        have b1 : l + n + m ≤ q.1 := b.1
        exact (I.rs q (by rw [hL]; simp [hq])).congr fun i h1 h2 => out i (.inr (by omega))
  · have l1 : (pendingOf st').size = P.length + (S.length + 1) := by rw [← Array.length_toList, eL]; simp
    have l2 : (pendingOf st).size = P.length + (S.length + 1 + 1) := by rw [← Array.length_toList, hL]; simp
    omega
theorem wpS_mgG {Q : U1 → SortSt → Prop} {pw size : Nat} (C : Cmp prog w A s κ Ok R) (U : Un Ok R c0) (I : PI κ R c0 hi st) (hz : hi ≤ c0.size) (h1 : 1 ≤ (pendingOf st).size)
    (h : ∀ st', PI κ R c0 hi st' → 1 ≤ (pendingOf st').size → (∀ i, hi ≤ i → (arrOf st')[i]? = (arrOf st)[i]?) → Q (none, ()) st') : wpS (model prog w) A E s (mgG pw size) Q st := by
  unfold mgG
  refine wpS_forRange (I := fun _ c st' => c = (none, ()) ∧ PI κ R c0 hi st' ∧ 1 ≤ (pendingOf st').size ∧ ∀ i, hi ≤ i → (arrOf st')[i]? = (arrOf st)[i]?) ?step ?fin ⟨rfl, I, h1, fun _ _ => rfl⟩
  case fin =>
    rintro c st' ⟨rfl, I', h1', out⟩
    exact h st' I' h1' out
  case step =>
    rintro x c st' _ _ ⟨rfl, I', h1', out⟩
    refine wpS_bind (wpS_get ?_)
    by_cases z : (pendingOf st').size > 1
    · rw [if_pos z]
      obtain ⟨⟨q1, q2, q3⟩, eq⟩ : ∃ q, (pendingOf st')[(pendingOf st').size - 2]? = some q := ⟨_, Array.getElem?_eq_getElem (by omega)⟩
      rw [eq]
      dsimp only
      split
      · exact wpS_pure (h st' I' h1' out)
      · refine wpS_bind (wpS_mgAt C U I' hz (by omega) fun st2 I2 e2 out2 => ?_)
        simp only [Bool.not_true, Bool.false_eq_true, if_false]
        exact wpS_pure ⟨rfl, I2, by omega, fun i hi' => (out2 i hi').trans (out i hi')⟩
    · rw [if_neg z]
      exact wpS_pure (h st' I' h1' out)
theorem PI.push {lo n : Nat} (I : PI κ R c0 lo st) (hn : 1 ≤ n) (hs : RS R (arrOf st) lo n) : PI κ R c0 (lo + n) (setPending st ((pendingOf st).push (lo, n, 0))) := by
  have e : ((pendingOf st).push (lo, n, 0)).toList = (pendingOf st).toList ++ [(lo, n, 0)] := Array.toList_push
  refine ⟨I.k, I.f, I.pm, ?_, fun q hq => ?_⟩
  · show Chain 0 ((pendingOf st).push (lo, n, 0)).toList (lo + n)
    rw [e]
    exact Chain.app.mpr ⟨lo, I.ch, rfl, hn, rfl⟩
  · have hq' : q ∈ ((pendingOf st).push (lo, n, 0)).toList := hq
    rw [e] at hq'
    rcases List.mem_append.mp hq' with hq | hq
    · exact I.rs q hq
    · rw [List.mem_singleton.mp hq]; exact hs
theorem Chain.modify {g : Nat × Nat × Nat → Nat × Nat × Nat} (hg : ∀ q, (g q).1 = q.1 ∧ (g q).2.1 = q.2.1) : ∀ {L : List (Nat × Nat × Nat)} {t l0 hi : Nat}, Chain l0 L hi → Chain l0 (L.modify t g) hi
  | [], t, l0, hi, h => by simpa using h
  | q :: r, 0, l0, hi, h => by
    rw [List.modify_zero_cons]
    exact ⟨(hg q).1.trans h.1, by rw [(hg q).2]; exact h.2.1, by rw [(hg q).2]; exact h.2.2⟩
  | q :: r, t + 1, l0, hi, h => by
    rw [List.modify_succ_cons]
    exact ⟨h.1, h.2.1, Chain.modify hg h.2.2⟩
theorem mem_modify {g : Nat × Nat × Nat → Nat × Nat × Nat} : ∀ {L : List (Nat × Nat × Nat)} {t : Nat} {q : Nat × Nat × Nat}, q ∈ L.modify t g → q ∈ L ∨ ∃ p ∈ L, q = g p
  | [], t, q, h => by simp at h
  | p :: r, 0, q, h => by
    rw [List.modify_zero_cons] at h
    rcases List.mem_cons.mp h with rfl | h
    · exact .inr ⟨p, List.mem_cons_self, rfl⟩
    · exact .inl (List.mem_cons_of_mem _ h)
  | p :: r, t + 1, q, h => by
    rw [List.modify_succ_cons] at h
    rcases List.mem_cons.mp h with rfl | h
    · exact .inl List.mem_cons_self
    · rcases mem_modify h with h | ⟨p', h1, h2⟩
      · exact .inl (List.mem_cons_of_mem _ h)
      · exact .inr ⟨p', List.mem_cons_of_mem _ h1, h2⟩
theorem PI.power {t pw : Nat} (I : PI κ R c0 hi st) : PI κ R c0 hi (setPending st ((pendingOf st).modify t fun x => (x.1, x.2.1, pw))) := by
  have e : ((pendingOf st).modify t fun x => (x.1, x.2.1, pw)).toList = (pendingOf st).toList.modify t fun x => (x.1, x.2.1, pw) := Array.toList_modify
  refine ⟨I.k, I.f, I.pm, ?_, fun q hq => ?_⟩
  · show Chain 0 ((pendingOf st).modify t fun x => (x.1, x.2.1, pw)).toList hi
    rw [e]
    exact Chain.modify (g := fun x => (x.1, x.2.1, pw)) (fun q => ⟨rfl, rfl⟩) I.ch
  · have hq' : q ∈ ((pendingOf st).modify t fun x => (x.1, x.2.1, pw)).toList := hq
    rw [e] at hq'
    rcases mem_modify hq' with hq | ⟨p, hp, rfl⟩
    · exact I.rs q hq
    · exact I.rs p hp
theorem wpS_addG {Q : ForInStep U2 → SortSt → Prop} {size lo n : Nat} (C : Cmp prog w A s κ Ok R) (U : Un Ok R c0) (I : PI κ R c0 lo st) (hn : 1 ≤ n) (hz : lo + n ≤ c0.size) (hs : RS R (arrOf st) lo n)
    (h : ∀ st', PI κ R c0 (lo + n) st' → Q (.yield (none, lo + n)) st') : wpS (model prog w) A E s (addG size lo n) Q st := by
  unfold addG
  refine wpS_bind (wpS_get ?_)
  cases hb : (pendingOf st).back? with
  | none =>
    dsimp only
    exact wpS_bind (wpS_modify (wpS_pure (h _ (I.push hn hs))))
  | some q =>
    obtain ⟨l1, n1, e1⟩ := q
    dsimp only
    have h1 : 1 ≤ (pendingOf st).size := by
      cases z : (pendingOf st).size with
      | zero => rw [Array.back?_eq_getElem?, z] at hb; simp [Array.eq_empty_of_size_eq_zero z] at hb
      | succ k => omega
    refine wpS_bind (wpS_mgG C U I (by omega) h1 fun st' I' h1' out => ?_)
    dsimp only
    refine wpS_bind (wpS_modify (wpS_bind (wpS_modify (wpS_pure (h _ ?_)))))
    exact PI.push (PI.power I') hn (hs.congr fun i h1 h2 => out i h1)
theorem wpS_runG {Q : ForInStep U2 → SortSt → Prop} {lo : Nat} (C : Cmp prog w A s κ Ok R) (U : Un Ok R c0) (I : PI κ R c0 lo st) (hlt : lo < c0.size)
    (h : ∀ n st', 1 ≤ n → lo + n ≤ c0.size → PI κ R c0 (lo + n) st' → Q (.yield (none, lo + n)) st') : wpS (model prog w) A E s (runG c0.size lo) Q st := by
  unfold runG
  rw [if_neg (by omega)]
  have P : Ph κ c0 (pendingOf st) st := ⟨I.k, I.f, rfl, I.pm⟩
  refine wpS_bind (wpS_count C U P (by omega) (by omega) fun m st1 P1 hm1 hm2 out1 s1 => ?_)
  dsimp only
  have back : ∀ {st2 : SortSt}, Ph κ c0 (pendingOf st) st2 → (∀ i, i < lo → (arrOf st2)[i]? = (arrOf st)[i]?) → PI κ R c0 lo st2 := fun {st2} P2 out => by
    refine ⟨P2.k, P2.f, P2.pm, by rw [P2.p]; exact I.ch, fun q hq => ?_⟩
    rw [P2.p] at hq
    have b := Chain.mem I.ch q hq
    exact (I.rs q hq).congr fun i h1 h2 => out i (by omega)
  by_cases z : m < minRun' c0.size c0.size 0
  · rw [if_pos z]
    refine wpS_bind (wpS_lift (wpAny_rule ⟨rfl, ?_⟩))
    refine wpS_bind (wpS_bin C U P1 (by omega) (by omega) s1 fun st2 P2 out2 s2 => ?_)
    simp only [Bool.not_true, Bool.false_eq_true, if_false]
    refine wpS_addG C U (back P2 fun i hi' => (out2 i (.inl hi')).trans (out1 i (.inl hi'))) (by omega) (by omega) (RS.of fun i j x y a b c d e => s2 i j x y a b c d e) fun st3 I3 => h _ st3 (by omega) (by omega) I3
  · rw [if_neg z]
    exact wpS_addG C U (back P1 fun i hi' => out1 i (.inl hi')) hm1 (by omega) (RS.of fun i j x y a b c d e => s1 i j x y a b c d e) fun st3 I3 => h _ st3 hm1 (by omega) I3
theorem pick_lt {p : Array (Nat × Nat × Nat)} (h : 1 < p.size) : pickG p + 1 < p.size := by
  unfold pickG
  generalize Option.any (fun x => decide (x < p[p.size - 2 + 1]?.elim 0 fun x => x.2.1)) (if p.size - 2 > 0 then Option.map (fun x => x.2.1) p[p.size - 2 - 1]? else none) = b
  cases b
  · rw [if_neg (by simp)]; omega
  · rw [if_pos rfl]; omega
theorem wpS_sort {Q : Unit → SortSt → Prop} (C : Cmp prog w A s κ Ok R) (U : Un Ok R c0) (hk : kindOf st = κ) (hf : failedOf st = none) (ha : arrOf st = c0) (hp : pendingOf st = #[]) (h2 : 1 ≤ c0.size)
    (h : ∀ st', (arrOf st').Perm c0 → failedOf st' = none → (arrOf st').toList.Pairwise (Le R) → Q () st') : wpS (model prog w) A E s sortRuns' Q st := by
  rw [sortG_eq]
  refine wpS_bind (wpS_get ?_)
  rw [ha]
  have I0 : PI κ R c0 0 st := ⟨hk, hf, by rw [ha], by rw [hp]; rfl, fun q hq => by rw [hp] at hq; cases hq⟩
  refine wpS_bind (wpS_mono (wpS_forRange (I := fun x c st' => ∃ lo, c = (none, lo) ∧ x ≤ lo ∧ lo ≤ c0.size ∧ PI κ R c0 lo st')
    (Q := fun c st' => c = (none, c0.size) ∧ PI κ R c0 c0.size st') ?step ?fin ⟨0, rfl, Nat.le_refl _, Nat.zero_le _, I0⟩) ?post)
  case fin =>
    rintro c st' ⟨lo, rfl, b1, b2, I⟩
    have : lo = c0.size := by omega
    subst this
    exact ⟨rfl, I⟩
  case step =>
    rintro x c st' _ hx ⟨lo, rfl, b1, b2, I⟩
    dsimp only
    by_cases z : lo < c0.size
    · exact wpS_runG C U I z fun n st2 hn hz I2 => ⟨_, rfl, by omega, hz, I2⟩
    · have : lo = c0.size := by omega
      subst this
      unfold runG
      rw [if_pos (Nat.le_refl _)]
      exact wpS_pure ⟨rfl, I⟩
  case post =>
    rintro c st' ⟨rfl, I⟩
    dsimp only
    unfold endG
    refine wpS_bind (wpS_mono (wpS_forRange (I := fun x c st'' => c = (none, ()) ∧ PI κ R c0 c0.size st'' ∧ (pendingOf st'').size + x ≤ c0.size)
      (Q := fun c st'' => c = (none, ()) ∧ PI κ R c0 c0.size st'' ∧ (pendingOf st'').size ≤ 1) ?step2 ?fin2 ⟨rfl, I, ?_⟩) ?post2)
    case fin2 =>
      rintro c st'' ⟨rfl, I', b⟩
      exact ⟨rfl, I', by omega⟩
    case step2 =>
      rintro x c st'' _ hx ⟨rfl, I', b⟩
      refine wpS_bind (wpS_get ?_)
      by_cases z : (pendingOf st'').size ≤ 1
      · rw [if_pos z]
        exact wpS_pure ⟨rfl, I', z⟩
      · rw [if_neg z]
        refine wpS_bind (wpS_mgAt C U I' (Nat.le_refl _) (pick_lt (by omega)) fun st3 I3 e3 _ => ?_)
        simp only [Bool.not_true, Bool.false_eq_true, if_false]
        exact wpS_pure ⟨rfl, I3, by omega⟩
    case post2 =>
      rintro c st'' ⟨rfl, I', b⟩
      refine wpS_pure (h st'' I'.pm I'.f ?_)
      have ch := I'.ch
      have rs := I'.rs
      have lb : (pendingOf st'').toList.length ≤ 1 := by rw [Array.length_toList]; exact b
      match hq : (pendingOf st'').toList, lb, ch, rs with
      | [], _, ch, rs =>
        have : 0 = c0.size := ch
        omega
      | [q], _, ch, rs =>
        obtain ⟨a1, a2, a3⟩ := ch
        have e3 : 0 + q.2.1 = c0.size := a3
        have r := rs q List.mem_cons_self
        unfold RS at r
        rw [a1, List.drop_zero, List.take_of_length_le (by rw [Array.length_toList, I'.pm.size_eq]; omega)] at r
        exact r
      | _ :: _ :: _, lb, _, _ => simp at lb
    · have := Chain.le I.ch
      rw [Array.length_toList] at this
      omega
end
end TS

set_option Elab.async false
set_option linter.all false
set_option maxRecDepth 100000
namespace TS
open PySem PyProof.Rows PySem.W
abbrev T3 := Int × Int × Int
def ltT (a b : T3) : Bool := if a.1 = b.1 then (if a.2.1 = b.2.1 then decide (a.2.2 < b.2.2) else decide (a.2.1 < b.2.1)) else decide (a.1 < b.1)
theorem ltT_tr {x y z : T3} (h1 : ltT y x = false) (h2 : ltT z y = false) : ltT z x = false := by
  unfold ltT at *
  split at h1 <;> split at h2 <;> (try split at h1) <;> (try split at h2) <;> split <;> (try split) <;> simp only [decide_eq_false_iff_not] at * <;> omega
theorem ltT_as {x y : T3} (h : ltT x y = true) : ltT y x = false := by
  unfold ltT at *
  split at h <;> (try split at h) <;> split <;> (try split) <;> simp only [decide_eq_true_eq, decide_eq_false_iff_not] at * <;> omega
theorem ltT_tot {x y : T3} (hn : x ≠ y) (h : ltT x y = false) : ltT y x = true := by
  unfold ltT at *
  have : ¬ (x.1 = y.1 ∧ x.2.1 = y.2.1 ∧ x.2.2 = y.2.2) := fun ⟨a, b, c⟩ => hn (Prod.ext a (Prod.ext b c))
  split at h <;> (try split at h) <;> split <;> (try split) <;> simp only [decide_eq_true_eq, decide_eq_false_iff_not] at * <;> omega
def At3 (h : Heap) (v : Value) (x : T3) : Prop := ∃ a o n t1 t2 t3, v = .ref a ∧ h.get? a = some o ∧ o.cls = .type "tuple" ∧ o.data = .seq #[.int x.1 t1, .int x.2.1 t2, .int x.2.2 t3] n
theorem At3.inj {h : Heap} {v : Value} {x y : T3} (hx : At3 h v x) (hy : At3 h v y) : x = y := by
  obtain ⟨a, o, n, t1, t2, t3, rfl, e1, e2, e3⟩ := hx
  obtain ⟨a', o', n', u1, u2, u3, e0, f1, f2, f3⟩ := hy
  cases e0
  rw [e1] at f1
  cases f1
  rw [e3] at f3
  injection f3 with f4 _
  simp at f4
  exact Prod.ext f4.1.1 (Prod.ext f4.2.1.1 f4.2.2.1)
section
variable {prog : Program} {w : World} {A : Around} {E : Value → Shared → Prop} {s : Shared}
theorem lt_three {v u : Value} {x y : T3} {Q : Bool → Shared → Prop} (hv : At3 s.heap v x) (hu : At3 s.heap u y) (h : Q (ltT x y) s) : wpAny (model prog w) A (keyLt' (tuples' true) v u) Q E s := by
  obtain ⟨a, o, n, t1, t2, t3, rfl, e1, e2, e3⟩ := hv
  obtain ⟨a', o', n', u1, u2, u3, rfl, f1, f2, f3⟩ := hu
  refine kat_lt e1 e3 f1 f3 ?_
  show KatLex prog w A true _ Q [(.int x.1 t1, .int y.1 u1), (.int x.2.1 t2, .int y.2.1 u2), (.int x.2.2 t3, .int y.2.2 u3)] 0 s
  have ei : ∀ (i j : Int) (t u : Tok) (Q' : Bool → Shared → Prop) (E' : Value → Shared → Prop), Q' (i == j) s → wpAny (model prog w) A (eqBool (.int i t) (.int j u)) Q' E' s := fun i j t u Q' E' q => SeqAt.EqAt.int_int (A := A) (s := s) i t j u prog w E' Q' q
  have l2 : ∀ (i j : Int) (t u : Tok) (E' : Value → Shared → Prop), Q (decide (i < j)) s → wpAny (model prog w) A (oneLt' false (.int i t) (.int j u)) Q E' s := fun i j t u E' q => by
    refine kat_one _ _ ?_
    exact PySem.P.lt_int q
  unfold ltT at h
  refine kat_cons (ei _ _ _ _ _ _ ?_)
  by_cases z1 : x.1 = y.1
  · rw [if_pos z1] at h
    rw [show (x.1 == y.1) = true by simpa using z1]
    refine kat_yes (kat_cons (ei _ _ _ _ _ _ ?_))
    by_cases z2 : x.2.1 = y.2.1
    · rw [if_pos z2] at h
      rw [show (x.2.1 == y.2.1) = true by simpa using z2]
      refine kat_yes (kat_cons (ei _ _ _ _ _ _ ?_))
      by_cases z3 : x.2.2 = y.2.2
      · rw [show (x.2.2 == y.2.2) = true by simpa using z3]
        refine kat_yes (kat_nil ?_)
        rw [z3] at h
        simpa using h
      · rw [show (x.2.2 == y.2.2) = false by simpa using z3]
        exact kat_no (l2 _ _ _ _ _ h)
    · rw [if_neg z2] at h
      rw [show (x.2.1 == y.2.1) = false by simpa using z2]
      exact kat_no (l2 _ _ _ _ _ h)
  · rw [if_neg z1] at h
    rw [show (x.1 == y.1) = false by simpa using z1]
    exact kat_no (oneLt_int h)
end
end TS

set_option Elab.async false
set_option linter.all false
set_option maxRecDepth 100000
namespace TS
open PySem PyProof.Rows PySem.W
theorem At3.keep {h h' : Heap} {v : Value} {x : T3} (k : ∀ b o, o.cls = .type "tuple" → h.get? b = some o → h'.get? b = some o) (z : At3 h v x) : At3 h' v x := by
  obtain ⟨a, o, n, t1, t2, t3, rfl, e1, e2, e3⟩ := z
  exact ⟨a, o, n, t1, t2, t3, rfl, k a o e2 e1, e2, e3⟩
theorem katTups_of {h : Heap} {f : Value → T3} : ∀ {vs : List Value}, (∀ v ∈ vs, At3 h v (f v)) → ∃ fs : List Value, KatTups h vs fs ∧ fs.length = vs.length ∧ ∀ u ∈ fs, ∃ i t, u = Value.int i t
  | [], _ => ⟨[], trivial, rfl, fun _ z => by cases z⟩
  | v :: vs, z => by
    obtain ⟨fs, k, l, ty⟩ := katTups_of (vs := vs) fun u hu => z u (List.mem_cons_of_mem _ hu)
    obtain ⟨a, o, n, t1, t2, t3, e0, e1, e2, e3⟩ := z v List.mem_cons_self
    refine ⟨.int (f v).1 t1 :: fs, ⟨⟨a, o, _, n, e0, e1, e2, e3, rfl⟩, k⟩, by simp [l], fun u hu => ?_⟩
    rcases List.mem_cons.mp hu with rfl | hu
    · exact ⟨_, _, rfl⟩
    · exact ty u hu
theorem zip_self (vs : List Value) : (vs.toArray.zip vs.toArray).toList = vs.map fun v => (v, v) := by
  rw [Array.toList_zip]
  induction vs with
  | nil => rfl
  | cons v vs ih => simpa using ih
theorem map_nodup_inj {f : Value → T3} {vs : List Value} (h : (vs.map f).Nodup) {x y : Value} (hx : x ∈ vs) (hy : y ∈ vs) (e : f x = f y) : x = y := by
  obtain ⟨i, hi, rfl⟩ := List.getElem_of_mem hx
  obtain ⟨j, hj, rfl⟩ := List.getElem_of_mem hy
  have e2 : (vs.map f)[i]? = (vs.map f)[j]? := by
    rw [List.getElem?_map, List.getElem?_map, List.getElem?_eq_getElem hi, List.getElem?_eq_getElem hj]
    show some _ = some _
    rw [e]
  have := (List.getElem?_inj (by simpa using hi) h).mp e2
  subst this
  rfl
section
variable {prog : Program} {w : World} {A : Around} {E : Value → Shared → Prop} {s : Shared}
theorem list_sort3 {a : Addr} {vs : List Value} {n : Nat} {P : PySem.Fin → Shared → Prop} {f : Value → T3} (ho : s.heap.get? a = some (seqObj "list" vs.toArray n)) (hf : ∀ v ∈ vs, At3 s.heap v (f v)) (hnd : (vs.map f).Nodup) (hz : vs.length ≤ sizeLine)
    (h : ∀ vs' : List Value, vs'.Perm vs → (vs'.map f).Pairwise (fun x y => ltT x y = true) → P (.done (.ret .none)) { s with heap := sortedHeap s.heap a vs vs'.toArray }) :
    wpAny (model prog w) A (Builtin.«list.sort» ⟨[.ref a], []⟩) P E s := by
  rw [list_sort_plain]
  have ha : a < s.heap.objs.size := Heap.lt_size ho
  refine wpAny_bind (listItems_at ho rfl ?_)
  refine wpAny_bind (listUpdate_at ho rfl ?_ (by rw [List.size_toArray]; exact hz) (Nat.zero_le _))
  obtain ⟨e1, ho1⟩ : ∃ e1, (s.heap.update a (Obj.mapSeq fun _ => (#[] : Array Value))).get? a = some (seqObj "list" #[] e1) := ⟨_, get?_update_seq ho (fun _ => #[])⟩
  refine wpAny_bind (seqEpoch_at ho1 rfl ?_)
  refine wpAny_bind (wpAny_newTuple ?_ hz)
  refine wpAny_bind (wpAny_newList ?_ (Nat.zero_le _))
  refine wpAny_holding ?_
  have ho6 : (((s.heap.update a (Obj.mapSeq fun _ => (#[] : Array Value))).push (seqObj "tuple" vs.toArray 0)).push (seqObj "list" #[] 0)).get? a = some (seqObj "list" #[] e1) := by
    rw [Heap.get?_push_ne _ _ _ (by rw [size_push', Heap.size_update]; exact Nat.ne_of_lt (Nat.lt_succ_of_lt ha)), Heap.get?_push_ne _ _ _ (by rw [Heap.size_update]; exact Nat.ne_of_lt ha)]
    exact ho1
  have kp : ∀ b o, o.cls = .type "tuple" → s.heap.get? b = some o → (((s.heap.update a (Obj.mapSeq fun _ => (#[] : Array Value))).push (seqObj "tuple" vs.toArray 0)).push (seqObj "list" #[] 0)).get? b = some o := fun b o hc e => by
    have hb : b ≠ a := fun z => by
      subst z
      rw [ho] at e
      cases e
      exact absurd (show Value.type "list" = Value.type "tuple" from hc) (fun z => absurd (Value.type.inj z) (by decide))
    exact Heap.get?_push_of_some _ (Heap.get?_push_of_some _ (((Heap.SameBut.update s.heap a (Obj.mapSeq fun _ => (#[] : Array Value))).2 b hb).trans e))
  have hf6 : ∀ v ∈ vs, At3 (((s.heap.update a (Obj.mapSeq fun _ => (#[] : Array Value))).push (seqObj "tuple" vs.toArray 0)).push (seqObj "list" #[] 0)) v (f v) := fun v hv => (hf v hv).keep kp
  show wpAny (model prog w) A _ P E { s with heap := ((s.heap.update a (Obj.mapSeq fun _ => (#[] : Array Value))).push (seqObj "tuple" vs.toArray 0)).push (seqObj "list" #[] 0) }
  dsimp only
  have hsz : vs.toArray.size = vs.length := by simp
  have fin : ∀ c : Array Keyed, c.Perm (vs.toArray.zip vs.toArray) → c.toList.Pairwise (Le fun x y => ltT (f x.1) (f y.1)) → P (.done (.ret .none)) { s with heap := sortedHeap s.heap a vs (c.map (·.2)) } := by
    intro c hc hp
    have pm : c.toList.Perm (vs.map fun v => (v, v)) := by
      rw [← zip_self]
      exact Array.perm_iff_toList_perm.mp hc
    have pm2 : (c.toList.map (·.2)).Perm vs := by
      have := pm.map (·.2)
      rw [List.map_map] at this
      rwa [show ((fun x : Keyed => x.2) ∘ fun v : Value => (v, v)) = id from rfl, List.map_id] at this
    have e := h (c.toList.map (·.2)) pm2 ?_
    · rwa [show (c.toList.map (·.2)).toArray = c.map (·.2) by apply Array.toList_inj.mp; rw [Array.toList_map]] at e
    · have nd' : ((c.toList.map (·.2)).map f).Nodup := (pm2.map f).nodup_iff.mpr hnd
      rw [List.map_map] at nd' ⊢
      rw [List.pairwise_map]
      rw [List.Nodup, List.pairwise_map] at nd'
      refine (List.Pairwise.and_mem.mp (hp.and nd')).imp fun {x y} ⟨hx, hy, l, ne⟩ => ?_
      have p1 : ∀ z ∈ c.toList, z.1 = z.2 := fun z hz => by
        obtain ⟨v, _, rfl⟩ := List.mem_map.mp (pm.mem_iff.mp hz)
        rfl
      have l' : ltT (f y.1) (f x.1) = false := l
      rw [p1 x hx, p1 y hy] at l'
      exact ltT_tot (fun z => ne z.symm) l'
  by_cases h2 : vs.toArray.size < 2
  · rw [if_pos h2, if_pos h2]
    refine wpAny_bind (wpAny_pure ?_)
    rw [StateT.run_pure]
    refine wpAny_bind (wpAny_pure ?_)
    dsimp only
    refine wpAny_bind (seqEpoch_at ho6 rfl ?_)
    refine wpAny_bind (listUpdate_at ho6 rfl ?_ (Nat.zero_le _) (by rw [Array.size_map]; show (vs.toArray.zip vs.toArray).size ≤ _; rw [Array.size_zip, sizeLine_eq]; omega))
    simp only [bne_self_eq_false, Bool.false_eq_true, if_false]
    refine wpAny_pure (fin (vs.toArray.zip vs.toArray) (Array.Perm.refl _) ?_)
    rw [zip_self]
    match vs, hsz, h2 with
    | [], _, _ => exact List.Pairwise.nil
    | [_], _, _ => exact List.pairwise_singleton _ _
    | _ :: _ :: _, _, h2 => exact absurd h2 (by simp)
  · rw [if_neg h2, if_neg h2]
    obtain ⟨fs, kt, kl, kty⟩ := katTups_of hf6
    refine wpAny_bind (kat_kind (T := Value.type "int") kt (by omega) (fun v hv => ?_) rfl ?_)
    · obtain ⟨i, t, rfl⟩ := kty v hv
      exact Looks.now
    show wpAny _ _ (do let x ← (StateT.run sortRuns' (SortSt.mk' (tuples' true) _ #[] 7 none)); _) _ _ _
    refine wpAny_bind (wpAny_mono (wpS_sort (κ := tuples' true) (Ok := fun x : Keyed => x.1 ∈ vs ∧ x.2 = x.1) (R := fun x y => ltT (f x.1) (f y.1)) (c0 := vs.toArray.zip vs.toArray) (st := SortSt.mk' (tuples' true) (vs.toArray.zip vs.toArray) #[] 7 none)
      (Q := fun _ st' => (arrOf st').Perm (vs.toArray.zip vs.toArray) ∧ failedOf st' = none ∧ (arrOf st').toList.Pairwise (Le fun x y => ltT (f x.1) (f y.1)))
      ⟨fun E' x y hx hy Q q => lt_three (hf6 _ hx.1) (hf6 _ hy.1) q, fun x y z _ _ _ p q => ltT_tr p q, fun x y _ _ p => ltT_as p⟩
      ⟨fun x hx => ?_, ?_, fun x y hx hy ne l => ltT_tot (fun z => ne (Prod.ext (map_nodup_inj hnd hx.1 hy.1 z) (by rw [hx.2, hy.2]; exact map_nodup_inj hnd hx.1 hy.1 z))) l⟩
      rfl rfl rfl rfl (by rw [Array.size_zip]; omega) fun st' a1 a2 a3 => ⟨a1, a2, a3⟩) ?_ fun _ _ e => e)
    · rw [zip_self] at hx
      obtain ⟨v, hv, rfl⟩ := List.mem_map.mp hx
      exact ⟨hv, rfl⟩
    · rw [zip_self]
      have nv : vs.Nodup := by
        rw [List.Nodup, List.pairwise_map] at hnd
        exact hnd.imp fun ne z => ne (by rw [z])
      rw [List.Nodup, List.pairwise_map]
      exact nv.imp fun ne z => ne (by cases z; rfl)
    rintro ⟨⟨⟩, st'⟩ s' ⟨rfl, hp, hf', hs⟩
    dsimp only
    refine wpAny_bind (seqEpoch_at ho6 rfl ?_)
    refine wpAny_bind (listUpdate_at ho6 rfl ?_ (Nat.zero_le _) (by
      show ((arrOf st').map (·.2)).size ≤ _
      rw [Array.size_map, hp.size_eq, Array.size_zip, hsz]; omega))
    rw [hf']
    simp only [bne_self_eq_false, Bool.false_eq_true, if_false]
    exact wpAny_pure (fin (arrOf st') hp hs)
theorem sorted3 {l : Addr} {vs : List Value} {f : Value → T3} {Q : Value → Shared → Prop} (hl : s.heap.IsList l vs.toArray) (hf : ∀ v ∈ vs, At3 s.heap v (f v)) (hnd : (vs.map f).Nodup) (hz : vs.length ≤ sizeLine)
    (h : ∀ vs' : List Value, vs'.Perm vs → (vs'.map f).Pairwise (fun x y => ltT x y = true) → Q (.ref (s.heap.objs.size + 1)) { s with heap := sortedAll s.heap vs vs'.toArray }) :
    wpAny (model prog w) A (call (.builtin "sorted") [.ref l]) Q E s := by
  refine Calls.call_function_entry kind_sorted plain_sorted entry_sorted (args_sorted1 _) ?_
  unfold Builtin.«sorted»
  refine wpAny_bind (m := checkCount "sorted" 1 1 _) (wpAny_pure ?_)
  refine wpAny_bind (collect_list hl ?_ hz)
  refine wpAny_bind (wpAny_newList ?_ hz)
  have hsz : ((s.heap.push (seqObj "list" #[] 0)).update s.heap.objs.size (Obj.mapSeq (· ++ vs.toArray))).objs.size = s.heap.objs.size + 1 := by
    rw [Heap.size_update, size_push']
  have hoL : (((s.heap.push (seqObj "list" #[] 0)).update s.heap.objs.size (Obj.mapSeq (· ++ vs.toArray))).push (seqObj "list" vs.toArray 0)).get? (s.heap.objs.size + 1) = some (seqObj "list" vs.toArray 0) := by
    rw [← hsz]; exact Heap.get?_push_size _ rfl
  have kp : ∀ b o, s.heap.get? b = some o → (((s.heap.push (seqObj "list" #[] 0)).update s.heap.objs.size (Obj.mapSeq (· ++ vs.toArray))).push (seqObj "list" vs.toArray 0)).get? b = some o := fun b o e => by
    have hb : b ≠ s.heap.objs.size := Nat.ne_of_lt (Heap.lt_size e)
    exact Heap.get?_push_of_some _ (((Heap.SameBut.update _ s.heap.objs.size (Obj.mapSeq (· ++ vs.toArray))).2 b hb).trans (Heap.get?_push_of_some _ e))
  show wpAny _ _ _ _ _ { s with heap := ((s.heap.push (seqObj "list" #[] 0)).update s.heap.objs.size (Obj.mapSeq (· ++ vs.toArray))).push (seqObj "list" vs.toArray 0) }
  rw [hsz]
  refine wpAny_bind (wpAny_holding (wpAny_call_entry slot_list_sort ⟨_, hoL, rfl⟩ entry_list_sort (list_sort3 (f := f) hoL (fun v hv => (hf v hv).keep fun b o _ e => kp b o e) hnd hz fun vs' a1 a2 => ⟨_, rfl, ?_⟩) (args_list_sort _)))
  exact wpAny_pure ⟨_, rfl, h vs' a1 a2⟩
theorem sortedAll_keeps {h : Heap} {vs : List Value} {out : Array Value} {b : Addr} {o : Obj} (e : h.get? b = some o) : (sortedAll h vs out).get? b = some o := by
  have hb : b < h.objs.size := Heap.lt_size e
  have hsz : ((h.push (seqObj "list" #[] 0)).update h.objs.size (Obj.mapSeq (· ++ vs.toArray))).objs.size = h.objs.size + 1 := by
    rw [Heap.size_update, size_push']
  unfold sortedAll sortedHeap
  rw [(Heap.SameBut.update _ (h.objs.size + 1) _).2 b (Nat.ne_of_lt (Nat.lt_succ_of_lt hb))]
  refine Heap.get?_push_of_some _ (Heap.get?_push_of_some _ ?_)
  rw [(Heap.SameBut.update _ (h.objs.size + 1) _).2 b (Nat.ne_of_lt (Nat.lt_succ_of_lt hb))]
  refine Heap.get?_push_of_some _ ?_
  rw [(Heap.SameBut.update _ h.objs.size _).2 b (Nat.ne_of_lt hb)]
  exact Heap.get?_push_of_some _ e
theorem sortedAll_new {h : Heap} {vs : List Value} {out : Array Value} : ∃ n, (sortedAll h vs out).get? (h.objs.size + 1) = some (seqObj "list" out n) := by
  have hsz : ((h.push (seqObj "list" #[] 0)).update h.objs.size (Obj.mapSeq (· ++ vs.toArray))).objs.size = h.objs.size + 1 := by
    rw [Heap.size_update, size_push']
  have hoL : (((h.push (seqObj "list" #[] 0)).update h.objs.size (Obj.mapSeq (· ++ vs.toArray))).push (seqObj "list" vs.toArray 0)).get? (h.objs.size + 1) = some (seqObj "list" vs.toArray 0) := by
    rw [← hsz]; exact Heap.get?_push_size _ rfl
  obtain ⟨e1, ho1⟩ : ∃ e1, ((((h.push (seqObj "list" #[] 0)).update h.objs.size (Obj.mapSeq (· ++ vs.toArray))).push (seqObj "list" vs.toArray 0)).update (h.objs.size + 1) (Obj.mapSeq fun _ => (#[] : Array Value))).get? (h.objs.size + 1) = some (seqObj "list" #[] e1) := ⟨_, get?_update_seq hoL (fun _ => #[])⟩
  exact ⟨_, get?_update_seq (Heap.get?_push_of_some _ (Heap.get?_push_of_some _ ho1)) (fun _ => out)⟩
end
end TS

namespace L2
open PySem PySem.Spec PyProof.Rows
/-! ### range downward -/
def ItD (lo : Int) (n : Nat) : It := ⟨fun i _ => i < n, fun i H x H' => H' = H ∧ x = .int (lo - i), fun i _ => n ≤ i⟩
theorem turn_rangeD {P : Program} {w : World} {K : PySem.W.Frag} {tg : Expr} (it : Addr) (lo : Int) (n : Nat) : Turn P w K tg (ItD lo n) [it] it (fun i h => IsRangeIter h it (lo + (i : Nat) * (-1)) ((n : Int) - (i : Nat)) (-1)) where
  mem := by simp
  obj := fun i h st b hb => by
    have e : b = it := by simpa using hb
    subst e
    exact ⟨_, st, fun v z => by
      have z' : Data.fields _ = Data.cell v := z
      cases z'⟩
  keep := fun i h h' st k => k it (by simp) _ st
  item := by
    intro X hP hw hK hc i pins s σ H E I hf st hg
    subst hP hw hK
    obtain ⟨f0, f1, f2, f3, f4, f5⟩ := hf it (by simp)
    have W := Walks.range (prog := X.prog) (w := X.w) (I.ok.hd hc) it lo (-1) n
    refine W.item i s _ _ hg st fun v h' tk hv st' kk => ?_
    obtain ⟨t, rfl⟩ := hv
    have I1 : Inv X pins σ H { s with heap := h', toks := tk } := I.turned (fun b o hb e => kk b o (by simpa using hb) e) f0 f1 f3 f4 f5
    refine ⟨_, rfl, go_of (s := { s with heap := h', toks := tk }) (n := "range_iterator") st' rfl rfl (by decide) ⟨.int (lo - i), H, I1, ⟨t, ?_⟩, ⟨rfl, rfl⟩, st', fun b hb => (hf b hb).1⟩⟩
    rw [Int.mul_neg, Int.mul_one, Int.sub_eq_add_neg]
  done := by
    intro X hP hw hK hc i pins s σ H E I hf st hg
    subst hP hw hK
    obtain ⟨f0, f1, f2, f3, f4, f5⟩ := hf it (by simp)
    exact wpAny_pyNext_range_end (I.ok.hd hc) st (by have : n ≤ i := hg; omega) fun h' eb => ⟨rfl, I.turned (t' := s.toks) (fun b o hb e => eb b o hb e) f0 f1 f3 f4 f5⟩
  self := fun _ _ _ _ _ st h => wpAny_pyIter_rangeiter st h
theorem size_down (lo hi : Int) : Builtin.Range.rangeSize lo hi (-1) = (((lo - hi).toNat : Nat) : Int) := by
  unfold Builtin.Range.rangeSize
  rw [if_neg (by decide)]
  split
  · rw [show (-(-1 : Int)) = 1 from rfl, Int.ediv_one]; omega
  · omega
theorem small_down {a b : Int} (ha : -(2 ^ 62) ≤ a) (ha' : a < 2 ^ 62) (hb : -(2 ^ 62) ≤ b) (hb' : b < 2 ^ 62) : Builtin.Range.small a b (-1) = true := by
  unfold Builtin.Range.small
  rw [size_down]
  simp only [Builtin.Range.rangeFitsLong, Bool.and_eq_true, Bool.or_eq_true, decide_eq_true_eq, beq_iff_eq, show ¬ (-1 : Int) > 0 by decide, if_false]
  omega
section
variable {X : Cx} {tg : Expr}
theorem range_itD {pins : List (Addr × Obj)} {σ : St} {H : Hp} {s : Shared} {R : It → Hp → Prop} {E : Value → Shared → Prop} {lo hi : Int} {t u v : Tok} {tk : Nat} (I : Inv X pins σ H s) (h1 : -(2 ^ 62) ≤ lo) (h2 : lo < 2 ^ 62) (h3 : -(2 ^ 62) ≤ hi) (h4 : hi < 2 ^ 62)
    (q : R (ItD lo (lo - hi).toNat) H) : wpAny (model X.prog X.w) X.A (pyIter (.ref s.heap.objs.size)) (PIE X pins σ tg R) E { s with heap := s.heap.push { cls := .type "range", data := .fields #[.int lo t, .int hi u, .int (-1) v] }, toks := tk } := by
  refine wpAny_pyIter_range (IsRange.new ..) (small_down h1 h2 h3 h4) ?_
  have I1 : Inv X pins σ H { s with heap := s.heap.push { cls := .type "range", data := .fields #[.int lo t, .int hi u, .int (-1) v] }, toks := tk } := I.kept fun b o e => Heap.get?_push_of_some _ e
  refine ⟨(s.heap.push { cls := .type "range", data := .fields #[.int lo t, .int hi u, .int (-1) v] }).objs.size, [(s.heap.push { cls := .type "range", data := .fields #[.int lo t, .int hi u, .int (-1) v] }).objs.size], _, _, H, rfl,
    I1.kept (t' := tk) fun b o e => Heap.get?_push_of_some _ e, turn_rangeD _ lo (lo - hi).toNat, ?_, fun b hb => ?_, q⟩
  · have e1 : lo + ((0 : Nat) : Int) * (-1) = lo := by simp
    have e2 : (((lo - hi).toNat : Nat) : Int) - ((0 : Nat) : Int) = Builtin.Range.rangeSize lo hi (-1) := by rw [size_down]; omega
    show IsRangeIter _ _ (lo + ((0 : Nat) : Int) * (-1)) ((((lo - hi).toNat : Nat) : Int) - ((0 : Nat) : Int)) (-1)
    rw [e1, e2]
    exact Heap.get?_push_size _ rfl
  · have e : b = (s.heap.push { cls := .type "range", data := .fields #[.int lo t, .int hi u, .int (-1) v] }).objs.size := by simpa using hb
    subst e
    exact I1.fpOk (Nat.le_refl _) (I1.hok.fresh (Nat.le_refl _))
def iRng3 (ta : TA) : TI := fun σ H R => ta σ H fun vs H1 => ∃ i j : Int, vs = [.int i, .int j, .int (-1)] ∧ (-(2 ^ 62) ≤ i ∧ i < 2 ^ 62 ∧ -(2 ^ 62) ≤ j ∧ j < 2 ^ 62) ∧ R (ItD i (i - j).toNat) H1
theorem pi_range3 {a b c : Expr} {ta : TA} {p pos : Pos} (hg : Gl X "range") (hm : X.mg "range" = none) (ha : PA X [a, b, c] ta) (hs : starEach [a, b, c] X.env = [(false, eval a X.env), (false, eval b X.env), (false, eval c X.env)] := by rfl) (hs2 : starEach [b, c] X.env = [(false, eval b X.env), (false, eval c X.env)] := by rfl) :
    PI X tg (.Call (.Name "range" p) [a, b, c] [] pos) (iRng3 ta) := by
  intro pins s σ H R I h
  refine Call_ (ld_blt I hg hm boot_range (PyProof.Rows.callWith_type1 (thn (ha pos pins s σ H _ I h) fun us s1 ⟨vs, H1, I1, r1, q1⟩ => ?_) (by rw [hs, hs2]) (by rw [hs2]; rfl)))
  obtain ⟨i, j, e, ⟨q1, q2, q3, q4⟩, q⟩ := q1
  subst e
  cases r1 with
  | cons r rr =>
    cases rr with
    | cons r' rr =>
      cases rr with
      | cons r'' rr =>
        cases rr
        obtain ⟨t, rfl⟩ := r
        obtain ⟨t', rfl⟩ := r'
        obtain ⟨t'', rfl⟩ := r''
        exact call_range_3 (by decide) (range_itD I1 q1 q2 q3 q4 q) (.inl (PyProof.noPylong_small (by decide)))
end
theorem for_down {lo : Int} {n : Nat} {g : TG} {tb : TS} {D : Ends} {σ : St} {H : Hp} (Pv : Nat → St → Hp → Prop) (h0 : Pv 0 σ H)
    (hs : ∀ i σ H, i < n → Pv i σ H → g (.int (lo - i)) σ H fun σ2 H2 => tb { D with nx := Pv (i + 1), ct := Pv (i + 1), bk := D.nx } σ2 H2) (hd : ∀ σ H, Pv n σ H → D.nx σ H) :
    ∃ W : Nat → Nat → St → Hp → Prop, (∃ m, W 0 m σ H) ∧ ∀ i m σ H, W i m σ H →
      ((ItD lo n).stop i H ∧ D.nx σ H) ∨ ((ItD lo n).go i H ∧ ∃ N : St → Hp → Prop, (∀ σ' H', N σ' H' → ∃ m', m' < m ∧ W (i + 1) m' σ' H') ∧ ∀ x H', (ItD lo n).yld i H x H' → g x σ H' fun σ2 H2 => tb { D with nx := N, ct := N, bk := D.nx } σ2 H2) := by
  refine ⟨fun i m σ H => m = n - i ∧ i ≤ n ∧ Pv i σ H, ⟨n, by simp, Nat.zero_le _, h0⟩, ?_⟩
  rintro i m σ H ⟨rfl, hi, p⟩
  by_cases hlt : i < n
  · refine .inr ⟨hlt, Pv (i + 1), fun σ' H' p' => ⟨n - (i + 1), by omega, rfl, hlt, p'⟩, fun x H' y => ?_⟩
    obtain ⟨e, y⟩ := y
    subst e y
    exact hs i σ _ hlt p
  · have e : i = n := by omega
    subst e
    exact .inl ⟨Nat.le_refl _, hd σ H p⟩
/-! ### sorted, of tuples of three ints -/
def tu3 (x : TS.T3) : HO := .tup [.int x.1, .int x.2.1, .int x.2.2]
def Tw (H : Hp) (v : V) (x : TS.T3) : Prop := ∃ p, v = .ref p ∧ H p = some (tu3 x)
theorem at3_of {X : Cx} {pins : List (Addr × Obj)} {σ : St} {H : Hp} {s : Shared} (I : Inv X pins σ H s) {v : V} {u : Value} {x : TS.T3} (h : Tw H v x) (r : RelV v u) : TS.At3 s.heap u x := by
  obtain ⟨p, rfl, hp⟩ := h
  cases (show u = Value.ref p from r)
  obtain ⟨its, rv, ⟨⟨cl, dd, da, sl⟩, e1, e2, n, e3⟩, _⟩ := I.tuple (SqT.of (K := X.K) hp)
  simp only at e2 e3
  subst e2 e3
  cases rv with
  | cons r1 rv =>
    cases rv with
    | cons r2 rv =>
      cases rv with
      | cons r3 rv =>
        cases rv
        obtain ⟨t1, rfl⟩ := r1
        obtain ⟨t2, rfl⟩ := r2
        obtain ⟨t3, rfl⟩ := r3
        exact ⟨p, _, n, t1, t2, t3, rfl, e1, rfl, rfl⟩
theorem paired_refs : ∀ {vs : List V} {us : List Value} {xs : List TS.T3} {H : Hp}, Vals vs us → Paired (Tw H) vs xs → ∀ u ∈ us, ∃ v x, RelV v u ∧ Tw H v x ∧ v ∈ vs
  | _, _, _, _, .nil, .nil, u, hu => by cases hu
  | _, _, _, _, .cons r rs, .cons t ts, u, hu => by
    rcases List.mem_cons.mp hu with rfl | hu
    · exact ⟨_, _, r, t, List.mem_cons_self⟩
    · obtain ⟨v, x, a, b, c⟩ := paired_refs rs ts u hu
      exact ⟨v, x, a, b, List.mem_cons_of_mem _ c⟩
theorem paired_map {X : Cx} {pins : List (Addr × Obj)} {σ : St} {H : Hp} {s : Shared} (I : Inv X pins σ H s) {f : Value → TS.T3} (hf : ∀ u x, TS.At3 s.heap u x → f u = x) : ∀ {vs : List V} {us : List Value} {xs : List TS.T3}, Vals vs us → Paired (Tw H) vs xs → us.map f = xs
  | _, _, _, .nil, .nil => rfl
  | _, _, _, .cons r rs, .cons t ts => by
    rw [List.map_cons, paired_map I hf rs ts, hf _ _ (at3_of I t r)]
theorem tw_back {vs : List V} {us : List Value} {xs : List TS.T3} {H : Hp} {X : Cx} {pins : List (Addr × Obj)} {σ : St} {s : Shared} (I : Inv X pins σ H s) {f : Value → TS.T3} (hf : ∀ u x, TS.At3 s.heap u x → f u = x) (r : Vals vs us) (t : Paired (Tw H) vs xs) :
    ∀ (us' : List Value), (∀ u ∈ us', u ∈ us) → ∃ vs', Vals vs' us' ∧ Paired (Tw H) vs' (us'.map f)
  | [], _ => ⟨[], .nil, .nil⟩
  | u :: us', h => by
    obtain ⟨vs', a, b⟩ := tw_back I hf r t us' fun w hw => h w (List.mem_cons_of_mem _ hw)
    obtain ⟨v, x, c, d, _⟩ := paired_refs r t u (h u List.mem_cons_self)
    exact ⟨v :: vs', .cons c a, .cons (by rw [hf _ _ (at3_of I d c)]; exact d) b⟩
open Classical in
theorem call_sorted3 {X : Cx} : CallR X (.builtin "sorted") (fun zs H Q => ∃ (l : Addr) (vs : List V) (xs : List TS.T3), zs = [.ref l] ∧ SqL X.K H l vs ∧ Paired (Tw H) vs xs ∧ xs.Nodup ∧
    ∀ l' vs' xs', H l' = none → xs'.Perm xs → xs'.Pairwise (fun x y => TS.ltT x y = true) → Paired (Tw H) vs' xs' → Q (.ref l') (upd H l' (.lst vs'))) := by
  intro pins s σ H zs us Q I r h
  obtain ⟨l, vs, xs, rfl, hq, hP, hnd, q⟩ := h
  obtain ⟨u, rfl, rx⟩ := vals1 r
  cases rx
  obtain ⟨its, r', pl, hz⟩ := I.list hq
  have hlen := r'.length
  let f : Value → TS.T3 := fun u => if h : ∃ x, TS.At3 s.heap u x then h.choose else (0, 0, 0)
  have hf : ∀ u x, TS.At3 s.heap u x → f u = x := fun u x hx => by
    show (if h : ∃ x, TS.At3 s.heap u x then h.choose else (0, 0, 0)) = x
    rw [dif_pos ⟨x, hx⟩]
    exact (Exists.choose_spec (⟨x, hx⟩ : ∃ x, TS.At3 s.heap u x)).inj hx
  have hm := paired_map I hf r' hP
  refine TS.sorted3 (f := f) pl.isList (fun u hu => ?_) (by rw [hm]; exact hnd) (by omega) fun us' pm pw => ?_
  · obtain ⟨v, x, a, b, _⟩ := paired_refs r' hP u hu
    have e := at3_of I b a
    rw [hf _ _ e]
    exact e
  · obtain ⟨vs', a, b⟩ := tw_back I hf r' hP us' fun u hu => pm.mem_iff.mp hu
    have la := a.length
    have lp := pm.length_eq
    obtain ⟨n, en⟩ := TS.sortedAll_new (h := s.heap) (vs := its) (out := us'.toArray)
    refine ⟨.ref (s.heap.objs.size + 1), upd H (s.heap.objs.size + 1) (.lst vs'), ?_, rfl, q _ vs' (us'.map f) (I.hok.fresh (Nat.le_succ _)) (by rw [← hm]; exact pm.map f) pw b⟩
    exact I.laid (t' := s.toks) (fun b o e => TS.sortedAll_keeps e) (Nat.le_succ _) (show ObjOk X.prog X.w _ _ _ (.lst vs') from ⟨by omega, us', n, a, en⟩)
end L2

namespace GP
open PySem L2 GwM
open TS (T3 ltT)
/-! ### stretches that come again -/
def Eq2 (L : List Nat) (i j : Nat) : Prop := ∃ c, L[i]? = some c ∧ L[j]? = some c
theorem Eq2.lt {L : List Nat} {i j : Nat} (h : Eq2 L i j) : i < L.length ∧ j < L.length := by
  obtain ⟨c, a, b⟩ := h
  exact ⟨(List.getElem?_eq_some_iff.mp a).1, (List.getElem?_eq_some_iff.mp b).1⟩
def FTn (L : List Nat) (i j m : Nat) : Prop := i < j ∧ 0 < m ∧ (∀ k, k < m → Eq2 L (i + k) (j + k)) ∧ ¬ Eq2 L (i + m) (j + m) ∧ ¬ (0 < i ∧ Eq2 L (i - 1) (j - 1))
def n3 (i j m : Nat) : T3 := ((i : Int), (j : Int), (m : Int))
def FT (L : List Nat) (x : T3) : Prop := ∃ i j m : Nat, x = n3 i j m ∧ FTn L i j m
theorem FT.bd {L : List Nat} {x : T3} (h : FT L x) : 0 ≤ x.1 ∧ x.1 < x.2.1 ∧ 0 < x.2.2 ∧ x.2.1 + x.2.2 ≤ (L.length : Int) := by
  obtain ⟨i, j, m, rfl, h1, h2, h3, _, _⟩ := h
  have a := (h3 (m - 1) (by omega)).lt
  refine ⟨?_, ?_, ?_, ?_⟩
  · show (0 : Int) ≤ (i : Int); omega
  · show (i : Int) < (j : Int); omega
  · show (0 : Int) < (m : Int); omega
  · show (j : Int) + (m : Int) ≤ (L.length : Int); omega
def lcp : List Nat → List Nat → Nat
  | a :: as, b :: bs => if a = b then lcp as bs + 1 else 0
  | _, _ => 0
theorem lcp_spec : ∀ A B : List Nat, (∀ k, k < lcp A B → ∃ c, A[k]? = some c ∧ B[k]? = some c) ∧ ¬ ∃ c, A[lcp A B]? = some c ∧ B[lcp A B]? = some c
  | [], _ => ⟨fun k h => absurd h (by unfold lcp; exact Nat.not_lt_zero _), fun ⟨c, a, _⟩ => by simp at a⟩
  | a :: as, [] => ⟨fun k h => absurd h (by unfold lcp; exact Nat.not_lt_zero _), fun ⟨c, _, b⟩ => by simp at b⟩
  | a :: as, b :: bs => by
    obtain ⟨h1, h2⟩ := lcp_spec as bs
    unfold lcp
    split
    · rename_i e
      subst e
      refine ⟨fun k hk => ?_, ?_⟩
      · cases k with
        | zero => exact ⟨a, rfl, rfl⟩
        | succ k => rw [List.getElem?_cons_succ, List.getElem?_cons_succ]; exact h1 k (by omega)
      · rw [List.getElem?_cons_succ, List.getElem?_cons_succ]
        exact h2
    · rename_i e
      refine ⟨fun k h => absurd h (Nat.not_lt_zero _), fun ⟨c, x, y⟩ => e ?_⟩
      rw [List.getElem?_cons_zero] at x y
      exact (Option.some.inj x).trans (Option.some.inj y).symm
def ln (L : List Nat) (i j : Nat) : Nat := lcp (L.drop i) (L.drop j)
theorem ln_spec (L : List Nat) (i j : Nat) : (∀ k, k < ln L i j → Eq2 L (i + k) (j + k)) ∧ ¬ Eq2 L (i + ln L i j) (j + ln L i j) := by
  obtain ⟨h1, h2⟩ := lcp_spec (L.drop i) (L.drop j)
  refine ⟨fun k hk => ?_, fun ⟨c, a, b⟩ => h2 ⟨c, ?_, ?_⟩⟩
  · obtain ⟨c, a, b⟩ := h1 k hk
    rw [List.getElem?_drop] at a b
    exact ⟨c, a, b⟩
  · rw [List.getElem?_drop]; exact a
  · rw [List.getElem?_drop]; exact b
theorem ln_uniq {L : List Nat} {i j m : Nat} (h1 : ∀ k, k < m → Eq2 L (i + k) (j + k)) (h2 : ¬ Eq2 L (i + m) (j + m)) : m = ln L i j := by
  obtain ⟨a, b⟩ := ln_spec L i j
  rcases Nat.lt_trichotomy m (ln L i j) with z | z | z
  · exact absurd (a m z) h2
  · exact z
  · exact absurd (h1 _ z) b
theorem ln_step {L : List Nat} {i j c d : Nat} (hi : L[i]? = some c) (hj : L[j]? = some d) : ln L i j = if c = d then ln L (i + 1) (j + 1) + 1 else 0 := by
  obtain ⟨a, ea⟩ := List.getElem?_eq_some_iff.mp hi
  obtain ⟨b, eb⟩ := List.getElem?_eq_some_iff.mp hj
  unfold ln
  rw [List.drop_eq_getElem_cons a, List.drop_eq_getElem_cons b, ea, eb]
  rfl
theorem ln_end1 {L : List Nat} {i j : Nat} (h : L.length ≤ i) : ln L i j = 0 := by
  unfold ln
  rw [List.drop_of_length_le h]
  unfold lcp
  rfl
theorem ln_end2 {L : List Nat} {i j : Nat} (h : L.length ≤ j) : ln L i j = 0 := by
  unfold ln
  rw [List.drop_of_length_le h]
  cases L.drop i <;> rfl
def lens (L : List Nat) (i : Nat) : List V := (List.range (L.length + 1)).map fun j => V.int (ln L i j : Int)
theorem lens_len {L : List Nat} {i : Nat} : (lens L i).length = L.length + 1 := by unfold lens; rw [List.length_map, List.length_range]
theorem lens_at {L : List Nat} {i j : Nat} (h : j ≤ L.length) : (lens L i)[j]? = some (V.int (ln L i j : Int)) := by
  unfold lens
  rw [List.getElem?_map, List.getElem?_range (by omega)]
  rfl
theorem lens_nil {L : List Nat} : lens L L.length = List.replicate (L.length + 1) (V.int 0) := by
  apply List.ext_getElem?
  intro j
  by_cases h : j ≤ L.length
  · rw [lens_at h, ln_end1 (Nat.le_refl _), List.getElem?_replicate, if_pos (by omega)]
    rfl
  · rw [List.getElem?_eq_none (by rw [lens_len]; omega), List.getElem?_replicate, if_neg (by omega)]
def lensTo (L : List Nat) (i m : Nat) : List V := (List.range m).map fun j => V.int (ln L i j : Int)
theorem lensTo_succ {L : List Nat} {i m : Nat} : lensTo L i (m + 1) = lensTo L i m ++ [V.int (ln L i m : Int)] := by
  unfold lensTo
  rw [List.range_succ, List.map_append]
  rfl
theorem lensTo_all {L : List Nat} {i : Nat} : lensTo L i L.length ++ [V.int 0] = lens L i := by
  have e : lens L i = lensTo L i (L.length + 1) := rfl
  rw [e, lensTo_succ, ln_end2 (Nat.le_refl _)]
  rfl
theorem lensTo_len {L : List Nat} {i m : Nat} : (lensTo L i m).length = m := by unfold lensTo; rw [List.length_map, List.length_range]
/-! ### all of them, in order -/
structure AllT (L : List Nat) (xs : List T3) : Prop where
  pw : xs.Pairwise fun x y => ltT x y = true
  mem : ∀ x, x ∈ xs ↔ FT L x
theorem ltT_irr (x : T3) : ltT x x = false := by
  unfold TS.ltT
  rw [if_pos rfl, if_pos rfl]
  exact decide_eq_false (Int.lt_irrefl _)
theorem lt_first {i j m : Nat} {x : T3} (h : (i : Int) < x.1 ∨ (x.1 = i ∧ (j : Int) < x.2.1)) : ltT (n3 i j m) x = true := by
  unfold TS.ltT
  show (if (i : Int) = x.1 then (if (j : Int) = x.2.1 then decide ((m : Int) < x.2.2) else decide ((j : Int) < x.2.1)) else decide ((i : Int) < x.1)) = true
  rcases h with h | ⟨h1, h2⟩
  · rw [if_neg (by omega)]; exact decide_eq_true h
  · rw [if_pos h1.symm, if_neg (by omega)]; exact decide_eq_true h2
theorem ft_own {L : List Nat} {i j : Nat} {x : T3} (h : FT L x) (h1 : x.1 = i) (h2 : x.2.1 = j) : x = n3 i j (ln L i j) ∧ 0 < ln L i j ∧ ¬ (0 < i ∧ Eq2 L (i - 1) (j - 1)) := by
  obtain ⟨a, b, m, rfl, f1, f2, f3, f4, f5⟩ := h
  have e1 : (a : Int) = i := h1
  have e2 : (b : Int) = j := h2
  obtain rfl : a = i := by omega
  obtain rfl : b = j := by omega
  have := ln_uniq f3 f4
  subst this
  exact ⟨rfl, f2, f5⟩
theorem ft_of {L : List Nat} {i j : Nat} (hij : i < j) (h : 0 < ln L i j) (hn : ¬ (0 < i ∧ Eq2 L (i - 1) (j - 1))) : FT L (n3 i j (ln L i j)) :=
  ⟨i, j, _, rfl, hij, h, (ln_spec L i j).1, (ln_spec L i j).2, hn⟩
def Og (x y : T3) : Prop := x.2.1 - x.1 < y.2.1 - y.1 ∨ (x.2.1 - x.1 = y.2.1 - y.1 ∧ x.1 < y.1)
theorem Og.nd {xs : List T3} (h : xs.Pairwise Og) : xs.Nodup := h.imp fun {x y} o e => by
  subst e
  unfold Og at o
  omega
structure Run (L : List Nat) (g i m : Nat) (xs : List T3) : Prop where
  pw : xs.Pairwise Og
  mem : ∀ x, x ∈ xs ↔ FT L x ∧ (x.2.1 - x.1 < (g : Int) ∨ (x.2.1 - x.1 = (g : Int) ∧ x.1 + x.2.2 < (i : Int)))
  le : m ≤ i
  same : ∀ k, i - m ≤ k → k < i → Eq2 L k (k + g)
  first : ¬ (0 < i - m ∧ Eq2 L (i - m - 1) (i - m - 1 + g))
theorem Run.hit {L : List Nat} {g i m : Nat} {xs : List T3} (h : Run L g i m xs) (e : Eq2 L i (i + g)) : Run L g (i + 1) (m + 1) xs := by
  have hm := h.le
  refine ⟨h.pw, fun x => ⟨fun hx => ?_, fun ⟨f, hx⟩ => (h.mem x).mpr ⟨f, ?_⟩⟩, by omega, fun k h1 h2 => ?_, ?_⟩
  · obtain ⟨f, o⟩ := (h.mem x).mp hx
    exact ⟨f, by omega⟩
  · rcases hx with hx | ⟨h1, h2⟩
    · exact .inl hx
    · refine .inr ⟨h1, ?_⟩
      by_cases z : x.1 + x.2.2 = (i : Int)
      · exfalso
        obtain ⟨a, b, c, rfl, f1, f2, f3, f4, f5⟩ := f
        have z1 : (a : Int) + c = i := z
        have z2 : (b : Int) - a = g := h1
        apply f4
        rw [show a + c = i by omega, show b + c = i + g by omega]
        exact e
      · omega
  · by_cases z : k = i
    · rw [z]; exact e
    · exact h.same k (by omega) (by omega)
  · have := h.first
    rw [show i + 1 - (m + 1) = i - m by omega]
    exact this
theorem Run.one {L : List Nat} {g i m : Nat} {xs : List T3} (h : Run L g i m xs) (e : ¬ Eq2 L i (i + g)) {x : T3} (f : FT L x) (h1 : x.2.1 - x.1 = (g : Int)) (h2 : x.1 + x.2.2 = (i : Int)) : 0 < m ∧ x = n3 (i - m) (i - m + g) m := by
  obtain ⟨a, b, c, rfl, f1, f2, f3, f4, f5⟩ := f
  have z1 : (a : Int) + c = i := h2
  have z2 : (b : Int) - a = g := h1
  have hm := h.le
  have ea : a = i - m := by
    rcases Nat.lt_trichotomy a (i - m) with z | z | z
    · exfalso
      refine h.first ⟨by omega, ?_⟩
      have q := f3 (i - m - 1 - a) (by omega)
      rw [show a + (i - m - 1 - a) = i - m - 1 by omega, show b + (i - m - 1 - a) = i - m - 1 + g by omega] at q
      exact q
    · exact z
    · exfalso
      refine f5 ⟨by omega, ?_⟩
      have q := h.same (a - 1) (by omega) (by omega)
      rw [show a - 1 + g = b - 1 by omega] at q
      exact q
  have ec : c = m := by omega
  subst ec
  refine ⟨f2, ?_⟩
  rw [← ea, show a + g = b by omega]
theorem Run.missN {L : List Nat} {g i : Nat} {xs : List T3} (h : Run L g i 0 xs) (e : ¬ Eq2 L i (i + g)) : Run L g (i + 1) 0 xs := by
  refine ⟨h.pw, fun x => ⟨fun hx => ?_, fun ⟨f, hx⟩ => (h.mem x).mpr ⟨f, ?_⟩⟩, Nat.zero_le _, fun k h1 h2 => by omega, ?_⟩
  · obtain ⟨f, o⟩ := (h.mem x).mp hx
    exact ⟨f, by omega⟩
  · rcases hx with hx | ⟨h1, h2⟩
    · exact .inl hx
    · refine .inr ⟨h1, ?_⟩
      by_cases z : x.1 + x.2.2 = (i : Int)
      · exact absurd (h.one e f h1 z).1 (Nat.lt_irrefl _)
      · omega
  · rw [show i + 1 - 0 - 1 = i by omega]
    exact fun z => e z.2
theorem Run.miss {L : List Nat} {g i m : Nat} {xs : List T3} (h : Run L g i m xs) (hg : 0 < g) (hm0 : 0 < m) (e : ¬ Eq2 L i (i + g)) : Run L g (i + 1) 0 (xs ++ [n3 (i - m) (i - m + g) m]) := by
  have hm := h.le
  have f0 : FT L (n3 (i - m) (i - m + g) m) := by
    refine ⟨_, _, _, rfl, by omega, hm0, fun k hk => ?_, ?_, ?_⟩
    · have := h.same (i - m + k) (by omega) (by omega)
      rw [show i - m + g + k = i - m + k + g by omega]
      exact this
    · rw [show i - m + m = i by omega, show i - m + g + m = i + g by omega]
      exact e
    · intro ⟨z1, z2⟩
      refine h.first ⟨z1, ?_⟩
      rw [show i - m + g - 1 = i - m - 1 + g by omega] at z2
      exact z2
  have g0 : (n3 (i - m) (i - m + g) m).2.1 - (n3 (i - m) (i - m + g) m).1 = (g : Int) := by
    show ((i - m + g : Nat) : Int) - ((i - m : Nat) : Int) = g
    omega
  have e0 : (n3 (i - m) (i - m + g) m).1 + (n3 (i - m) (i - m + g) m).2.2 = (i : Int) := by
    show ((i - m : Nat) : Int) + (m : Int) = i
    omega
  have z0 : (0 : Int) < (n3 (i - m) (i - m + g) m).2.2 := f0.bd.2.2.1
  refine ⟨?_, fun x => ⟨fun hx => ?_, fun ⟨f, hx⟩ => ?_⟩, Nat.zero_le _, fun k h1 h2 => by omega, ?_⟩
  · refine List.pairwise_append.mpr ⟨h.pw, List.pairwise_singleton _ _, fun x hx y hy => ?_⟩
    rw [List.mem_singleton.mp hy]
    obtain ⟨f, o⟩ := (h.mem x).mp hx
    have fb := f.bd
    unfold Og
    rcases o with o | ⟨o1, o2⟩
    · left; omega
    · right
      refine ⟨by omega, ?_⟩
      -- two of them can't overlap
      obtain ⟨a, b, c, rfl, f1, f2, f3, f4, f5⟩ := f
      have o1' : (b : Int) - a = g := o1
      have o2' : (a : Int) + c < i := o2
      show (a : Int) < ((i - m : Nat) : Int)
      have : ¬ (i - m ≤ a) := fun z => f4 (by
        have q := h.same (a + c) (by omega) (by omega)
        rw [show a + c + g = b + c by omega] at q
        exact q)
      omega
  · rcases List.mem_append.mp hx with hx | hx
    · obtain ⟨f, o⟩ := (h.mem x).mp hx
      exact ⟨f, by omega⟩
    · rw [List.mem_singleton.mp hx]
      exact ⟨f0, .inr ⟨g0, by omega⟩⟩
  · rcases hx with hx | ⟨h1, h2⟩
    · exact List.mem_append_left _ ((h.mem x).mpr ⟨f, .inl hx⟩)
    · by_cases z : x.1 + x.2.2 = (i : Int)
      · rw [(h.one e f h1 z).2]
        exact List.mem_append_right _ (List.mem_singleton.mpr rfl)
      · exact List.mem_append_left _ ((h.mem x).mpr ⟨f, .inr ⟨h1, by omega⟩⟩)
  · rw [show i + 1 - 0 - 1 = i by omega]
    exact fun z => e z.2
structure Runs (L : List Nat) (g : Nat) (xs : List T3) : Prop where
  pw : xs.Pairwise Og
  mem : ∀ x, x ∈ xs ↔ FT L x ∧ x.2.1 - x.1 < (g : Int)
theorem Runs.nil {L : List Nat} : Runs L 1 [] := ⟨List.Pairwise.nil, fun x => ⟨fun h => (by cases h), fun ⟨f, h⟩ => by have := f.bd; omega⟩⟩
theorem Runs.start {L : List Nat} {g : Nat} {xs : List T3} (h : Runs L g xs) : Run L g 0 0 xs :=
  ⟨h.pw, fun x => (h.mem x).trans ⟨fun ⟨f, o⟩ => ⟨f, .inl o⟩, fun ⟨f, o⟩ => ⟨f, by have := f.bd; omega⟩⟩, Nat.le_refl _, fun k h1 h2 => by omega, fun z => by omega⟩
theorem Run.stop {L : List Nat} {g i m : Nat} {xs : List T3} (h : Run L g i m xs) (hi : L.length < i + g) : Runs L (g + 1) xs :=
  ⟨h.pw, fun x => (h.mem x).trans ⟨fun ⟨f, o⟩ => ⟨f, by omega⟩, fun ⟨f, o⟩ => ⟨f, by have := f.bd; omega⟩⟩⟩
theorem Runs.all {L : List Nat} {g : Nat} {xs ys : List T3} (h : Runs L g xs) (hg : L.length ≤ g) (p : ys.Perm xs) (w : ys.Pairwise fun x y => ltT x y = true) : AllT L ys :=
  ⟨w, fun x => (p.mem_iff.trans (h.mem x)).trans ⟨fun z => z.1, fun f => ⟨f, by have := f.bd; omega⟩⟩⟩
/-! ### promises -/
theorem Tw.same {H H' : Hp} {v : V} {x : T3} (h : Tw H v x) (e : Same H H') : Tw H' v x := by
  obtain ⟨q, h1, h2⟩ := h
  exact ⟨q, h1, e _ _ h2⟩
theorem Tw.off {H : Hp} {l : Addr} {xs : List V} {o : HO} {v : V} {x : T3} (h : Tw H v x) (hl : H l = some (.lst xs)) : Tw (L2.upd H l o) v x := by
  obtain ⟨q, h1, h2⟩ := h
  exact ⟨q, h1, by rw [L2.upd_ne (ne_of h2 hl (by intro z; cases z))]; exact h2⟩
theorem paired_rev {α β : Type} {F : α → β → Prop} : ∀ {ws : List α} {xs : List β}, Paired F ws xs → Paired F ws.reverse xs.reverse
  | _, _, .nil => .nil
  | _, _, .cons a b => by
    rw [List.reverse_cons, List.reverse_cons]
    exact GP.Paired.snoc (paired_rev b) a
def spLens : Sp := fun vs H Q _ => ∃ (r : Str) (i : Nat) (b : Addr), vs = [.str r, .int (i : Int), .ref b] ∧ r.cps.size ≤ 100 ∧ i < r.cps.size ∧ H b = some (.lst (lens r.cps.toList (i + 1))) ∧
  ∀ l H', Same H H' → H l = none → H' l = some (.lst (lens r.cps.toList i)) → Q (.ref l) H'
def spGoes : Sp := fun vs H Q _ => ∃ (r : Str) (i j : Nat), vs = [.str r, .int (i : Int), .int (j : Int)] ∧ r.cps.size ≤ 100 ∧ i < j ∧ j < r.cps.size ∧ ∀ b : Bool, (b = true ↔ (0 < i ∧ Eq2 r.cps.toList (i - 1) (j - 1))) → Q (.bl b) H
def spFull : Sp := fun vs H Q _ => ∃ r : Str, vs = [.str r] ∧ r.cps.size ≤ 50 ∧ ∀ l H' ws xs, Same H H' → H l = none → H' l = some (.lst ws) → Paired (Tw H') ws xs → AllT r.cps.toList xs → ws.length ≤ 10000 → Q (.ref l) H'
def spDrawnR (K : PySem.W.Frag) : Sp := fun vs H Q _ => ∃ (s t : Addr) (ns : List Int) (k : Int), vs = [.ref s, .ref t, .int 44] ∧ Ctr K H s t ns k ∧ k ≤ 1000 ∧
  ∀ (r : Str) H', Sgs r.cps.toList → r.cps.size ≤ 44 → Same (Wo t H) (Wo t H') → H' t = some (.lst [.int (k + 2)]) → Q (.str r) H'
theorem bad_put2 {r o : Str} {pl sp c : Nat} (h : BadS r pl) (hp : pl < sp) (ho : o.cps.toList = r.cps.toList.take sp ++ [c] ++ r.cps.toList.drop sp) : BadS o pl := by
  have low : ∀ k, k ≤ pl → o.cps[k]? = r.cps[k]? := fun k hk => by
    obtain ⟨⟨d, hd, _⟩, _⟩ := h
    have hl : pl < r.cps.toList.length := by rw [Array.length_toList]; exact (Array.getElem?_eq_some_iff.mp hd).1
    rw [← Array.getElem?_toList, ho, List.append_assoc, List.getElem?_append_left (by rw [List.length_take]; omega), List.getElem?_take, if_pos (by omega), Array.getElem?_toList]
  obtain ⟨⟨d, hd, hs⟩, hg⟩ := h
  exact ⟨⟨d, by rw [low pl (Nat.le_refl _)]; exact hd, hs⟩, fun k e hk he => hg k e hk (by rw [← low k (by omega)]; exact he)⟩
end GP

set_option Elab.async false
set_option linter.all false
set_option maxRecDepth 100000
namespace TS
open PySem PyProof.Rows PySem.W
def IsLam (h : Heap) (q : Addr) (qual : Str) (ps : Arguments) (body : Expr) (sc : Scope) : Prop :=
  ∃ pm c' ctv, h.get? q = some (kla_obj "<lambda>" qual ps body sc [] pm c' ctv) ∧ h.CodeRec (.ref c') qual
theorem codeRec_keep {h h' : Heap} {c : Addr} {q : Str} (k : ∀ b o, h.get? b = some o → h'.get? b = some o) (x : h.CodeRec (.ref c) q) : h'.CodeRec (.ref c) q := by
  obtain ⟨c₂, o, vs, t, e, e1, e2⟩ := x
  exact ⟨c₂, o, vs, t, e, k _ _ e1, e2⟩
theorem IsLam.keep {h h' : Heap} {q : Addr} {qual : Str} {ps : Arguments} {body : Expr} {sc : Scope} (k : ∀ b o, h.get? b = some o → h'.get? b = some o) (x : IsLam h q qual ps body sc) : IsLam h' q qual ps body sc := by
  obtain ⟨pm, c', ctv, e, r⟩ := x
  exact ⟨pm, c', ctv, k _ _ e, codeRec_keep k r⟩
structure Third (ps : Arguments) (body : Expr) (sc : Scope) : Prop where
  ex : ∃ (x : Str) (p1 p2 p3 : Pos) (j : Nat), body = .Subscript (.Name x p1) (.Constant (.int 2) j p2) p3 ∧ sc.names.lookup x = some .local ∧ (x == ("__debug__" : Str)) = false ∧
    ∀ (qual : Str) (pm cdv ct v : Value), bindArgs (kla_fn "<lambda>" qual ps body sc [] pm cdv ct) ⟨[v], []⟩ = pure [(x, v)]
  cell : ∀ x ∈ sc.names, x.2 ≠ .cell
  kind : sc.kind = .function
  co : sc.isCoroutine = false
  gen : sc.isGenerator = false
section
variable {prog : Program} {w : World} {A : Around} {E : Value → Shared → Prop} {s : Shared} {q : Addr} {qual : Str} {ps : Arguments} {body : Expr} {sc : Scope}
theorem lam_call {v : Value} {t : T3} {Q : Value → Shared → Prop} (hl : IsLam s.heap q qual ps body sc) (T : Third ps body sc) (hv : At3 s.heap v t) (hlim : s.heap.NoLimit) (hroom : A.depth < recursionLimit)
    (h : ∀ h' tk u, (∀ b o, s.heap.get? b = some o → h'.get? b = some o) → Q (.int t.2.2 u) { s with heap := h', toks := tk }) : wpAny (model prog w) A (call (.ref q) [v]) Q E s := by
  obtain ⟨pm, c', ctv, ho, hr⟩ := hl
  obtain ⟨x, p1, p2, p3, j, rfl, hx, hd, hb⟩ := T.ex
  obtain ⟨a, o, n, t1, t2, t3, rfl, e1, e2, e3⟩ := hv
  refine wpAny_call (kla_callFunE hroom ho rfl T.co T.gen rfl hr ?_)
  rw [hb]
  refine wpAny_pure (wpAny_newFunctionEnv T.cell (fun y hy => by rw [List.mem_singleton.mp hy]; exact hx) (fun h₁ hns hsb => ⟨hlim.fresh _ hsb, ?_⟩) T.kind)
  have kp : ∀ b o, s.heap.get? b = some o → h₁.get? b = some o := fun b o e => hsb.extBut b o (Nat.ne_of_lt (Heap.lt_size e)) (Heap.get?_push_of_some _ e)
  refine kla_codeExpr ?_
  refine Subscript_ (wpAny_Name (wpAny_loadName_local T.kind hx hns (v := .ref a) ?_ ?_) hd)
  · show List.lookup x [(x, Value.ref a)] = some (.ref a)
    simp [List.lookup]
  refine wpAny_Constant_int ?_
  refine subscriptTail_builtinR (T := "tuple") (x := .int t.2.2 t3) ⟨o, kp _ _ e1, e2⟩ slot_tuple_getitem.lookup (getItem_tuple (j := 2) (items := #[.int t.1 t1, .int t.2.1 t2, .int t.2.2 t3]) ⟨o, kp _ _ e1, e2, n, e3⟩ (by omega) (by omega) (by rfl) (by rfl) ⟨rfl, ?_⟩) (by with_unfolding_all rfl)
  exact h h₁ _ t3 kp
theorem max_args (a v d : Value) : argsOk "max" ⟨[a], [(Str.ofString "key", v), (Str.ofString "default", d)]⟩ := by unfold argsOk; kernel_rfl
def Best (kf : Nat → Int) (n i : Nat) : Prop := ∀ j, j < n → kf j ≤ kf i ∧ (j < i → kf j < kf i)
theorem isList_keep {h h' : Heap} {l : Addr} {its : Array Value} (k : ∀ b o, h.get? b = some o → h'.get? b = some o) (x : h.IsList l its) : h'.IsList l its := by
  obtain ⟨o, e, r⟩ := x
  exact ⟨o, k _ _ e, r⟩
variable {g : Heap} {l I S : Addr} {vs : List Value} {R : Result → Shared → Prop}
theorem max_loop (kf : Nat → Int) (hh : A.handled = none) (hl : g.IsList l vs.toArray) (hI : g.get? I = none) (hS : g.get? S = none) (hSI : S ≠ I)
    (turn : ∀ i v h tk (Q : Value → Shared → Prop), vs[i]? = some v → (∀ b o, g.get? b = some o → h.get? b = some o) → (∀ h' tk' t, (∀ b o, h.get? b = some o → h'.get? b = some o) → Q (.int (kf i) t) { s with heap := h', toks := tk' }) →
      wpAny (model prog w) A.in1 (call (.ref q) [v]) Q (fun _ _ => False) { s with heap := h, toks := tk })
    (hR : ∀ i v h' tk', vs[i]? = some v → Best kf vs.length i → (∀ b o, g.get? b = some o → h'.get? b = some o) → R (.ok (.ret v)) { s with heap := h', toks := tk' }) :
    ∀ (r j i : Nat) (h : Heap) (tk : Nat) (vb : Value) (tb : Tok) (c : Nat), vs.length - (j + 1) = r → j + 1 ≤ vs.length → (∀ b o, g.get? b = some o → h.get? b = some o) → h.get? S = some (seqObj "list" #[vb, .int (kf i) tb] c) →
      h.IsListIter I l (j + 1) → vs[i]? = some vb → i ≤ j → Best kf (j + 1) i →
      codeAny (model prog w) A (.builtin "max.loop" ⟨[.ref I, .ref q, .ref S], [(Str.ofString "default", .none)]⟩) R { s with heap := h, toks := tk } := by
  have nm : (toString "max" ++ toString ".loop" : String) = "max.loop" := by decide
  obtain ⟨ol, hol, rl⟩ := id hl
  have lI : l ≠ I := fun z => by rw [z, hI] at hol; cases hol
  have W := Walks.list (prog := prog) (w := w) (A := A.in1) hh I l lI vs.toArray
  have sz : vs.toArray.size = vs.length := by simp
  have nI : ∀ b o, g.get? b = some o → b ∉ [I] := fun b o e z => by rw [List.mem_singleton.mp z, hI] at e; cases e
  have nS : ∀ b o, g.get? b = some o → b ≠ S := fun b o e z => by rw [z, hS] at e; cases e
  intro r
  induction r with
  | zero =>
    intro j i h tk vb tb c hr hj kp gS hit hvb hij hb
    have en : j + 1 = vs.length := by omega
    refine codeAny_builtin PySem.F.entry_max_loop ?_
    rw [Around.under_plainId PySem.F.plain_max_loop _]
    show wpAny _ A.in1 (seqItems? (.ref S) >>= _) _ _ _
    refine wpAny_bind (wpAny_seqItems gS rfl ?_)
    show wpAny _ A.in1 (tryCatch (pyNext (.ref I)) _ >>= _) _ _ _
    refine wpAny_bind (wpAny_tryCatch (W.done _ _ _ ⟨by rw [sz, ← en]; exact hit, isList_keep kp hl⟩ fun h1 tk1 hk1 => ?_))
    have gS1 := hk1 S _ (by simpa using hSI) gS
    show wpAny _ A.in1 (updateSeq S (fun _ => #[]) >>= _) _ _ _
    refine wpAny_bind ?_
    refine wpAny_updateSeq gS1 rfl (wpAny_bind (wpAny_letGo (wpAny_pure ?_)))
    refine hR i vb _ _ hvb (by rw [← en]; exact hb) fun b o e => ?_
    rw [(Heap.SameBut.update h1 S _).2 b (nS b o e)]
    exact hk1 b o (nI b o e) (kp b o e)
  | succ r ih =>
    intro j i h tk vb tb c hr hj kp gS hit hvb hij hb
    have lt : j + 1 < vs.length := by omega
    refine codeAny_builtin PySem.F.entry_max_loop ?_
    rw [Around.under_plainId PySem.F.plain_max_loop _]
    show wpAny _ A.in1 (seqItems? (.ref S) >>= _) _ _ _
    refine wpAny_bind (wpAny_seqItems gS rfl ?_)
    show wpAny _ A.in1 (tryCatch (pyNext (.ref I)) _ >>= _) _ _ _
    refine wpAny_bind (wpAny_tryCatch (W.item (j + 1) _ _ _ (by rw [sz]; exact lt) ⟨hit, isList_keep kp hl⟩ fun v h1 tk1 hP hst hk1 => ?_))
    have hv : vs[j + 1]? = some v := by simpa using hP
    have kp1 : ∀ b o, g.get? b = some o → h1.get? b = some o := fun b o e => hk1 b o (nI b o e) (kp b o e)
    have gS1 := hk1 S _ (by simpa using hSI) gS
    obtain ⟨oI, hoI, rI⟩ := id hst.1
    show wpAny _ A.in1 (tryCatch (holding [v] (call (.ref q) [v])) _ >>= _) _ _ _
    refine wpAny_bind (wpAny_tryCatch (wpAny_holding (wpAny_mono (turn (j + 1) v h1 tk1 (fun u s' => ∃ h2 tk2 t2, u = .int (kf (j + 1)) t2 ∧ s' = { s with heap := h2, toks := tk2 } ∧ ∀ b o, h1.get? b = some o → h2.get? b = some o) hv kp1 fun h2 tk2 t2 k2 => ⟨h2, tk2, t2, rfl, rfl, k2⟩) (fun u s' hu => ?_) fun _ _ z => z.elim)))
    obtain ⟨h2, tk2, t2, rfl, rfl, k2⟩ := hu
    have kp2 : ∀ b o, g.get? b = some o → h2.get? b = some o := fun b o e => k2 b o (kp1 b o e)
    have gS2 := k2 _ _ gS1
    have hit2 : h2.IsListIter I l (j + 1 + 1) := ⟨oI, k2 _ _ hoI, rI⟩
    show wpAny _ A.in1 (tryCatch (holding [v, .int (kf (j + 1)) t2] (richCompare .Gt (.int (kf (j + 1)) t2) (.int (kf i) tb) >>= _)) _ >>= _) _ _ _
    refine wpAny_bind (wpAny_tryCatch (wpAny_holding (wpAny_bind (CmpOf.ints_gt (prog := prog) (w := w) (A := A.in1) (P := fun i v => ∃ t, v = .int (kf i) t) kf (fun i v h => h) (j + 1) i _ _ _ _ _ ⟨t2, rfl⟩ ⟨tb, rfl⟩ ?_))))
    refine wpAny_bind (wpAny_holding (wpAny_truthy_bool ?_))
    refine wpAny_bind (wpAny_letGo (wpAny_pure ?_))
    by_cases gt : kf i < kf (j + 1)
    · obtain ⟨c2, hc2⟩ : ∃ c2, (h2.update S (Obj.mapSeq fun _ => #[v, .int (kf (j + 1)) t2])).get? S = some (seqObj "list" #[v, .int (kf (j + 1)) t2] c2) := ⟨_, get?_update_seq gS2 fun _ => #[v, .int (kf (j + 1)) t2]⟩
      have gt' : kf (j + 1) > kf i := gt
      simp only [gt', decide_true, if_true]
      refine wpAny_bind ?_
      refine wpAny_updateSeq gS2 rfl (wpAny_bind (wpAny_letGo ?_))
      rw [nm]
      refine wpAny_pure ⟨plainId_quiet PySem.F.plain_max_loop _, ih (j + 1) (j + 1) _ _ v t2 c2 (by omega) lt (fun b o e => ?_) hc2 ?_ hv (Nat.le_refl _) fun j' hj' => ?_⟩
      · rw [(Heap.SameBut.update h2 S _).2 b (nS b o e)]
        exact kp2 b o e
      · exact ⟨oI, ((Heap.SameBut.update h2 S _).2 I hSI.symm).trans (k2 _ _ hoI), rI⟩
      · by_cases e : j' = j + 1
        · subst e
          exact ⟨by omega, fun _ => by omega⟩
        · have b1 := hb j' (by omega)
          exact ⟨by omega, fun _ => by omega⟩
    · have gt' : ¬ kf (j + 1) > kf i := gt
      simp only [gt', decide_false, Bool.false_eq_true, if_false]
      refine wpAny_bind (wpAny_letGo ?_)
      rw [nm]
      refine wpAny_pure ⟨plainId_quiet PySem.F.plain_max_loop _, ih (j + 1) i _ _ vb tb c (by omega) lt kp2 gS2 hit2 hvb (by omega) fun j' hj' => ?_⟩
      by_cases e : j' = j + 1
      · subst e
        exact ⟨by omega, fun _ => by omega⟩
      · exact hb j' (by omega)
theorem call_maxK {Q : Value → Shared → Prop} (kf : Nat → Int) (hh : A.handled = none) (hl : s.heap.IsList l vs.toArray)
    (turn : ∀ i v h tk (Q : Value → Shared → Prop), vs[i]? = some v → (∀ b o, s.heap.get? b = some o → h.get? b = some o) → (∀ h' tk' t, (∀ b o, h.get? b = some o → h'.get? b = some o) → Q (.int (kf i) t) { s with heap := h', toks := tk' }) →
      wpAny (model prog w) A.in1 (call (.ref q) [v]) Q (fun _ _ => False) { s with heap := h, toks := tk })
    (h0 : vs.length = 0 → ∀ h' tk', (∀ b o, s.heap.get? b = some o → h'.get? b = some o) → Q .none { s with heap := h', toks := tk' })
    (h1 : ∀ i v h' tk', vs[i]? = some v → Best kf vs.length i → (∀ b o, s.heap.get? b = some o → h'.get? b = some o) → Q v { s with heap := h', toks := tk' }) :
    wpAny (model prog w) A (call (.builtin "max") [.ref l] [(Str.ofString "key", .ref q), (Str.ofString "default", .none)]) Q E s := by
  have nm : (toString "max" ++ toString ".loop" : String) = "max.loop" := by decide
  obtain ⟨ol, hol, rl⟩ := id hl
  have lt : l < s.heap.objs.size := Heap.lt_size hol
  refine kmk_tree PySem.F.kind_max PySem.F.plain_max PySem.F.entry_max (max_args _ _ _) ?_
  show wpAny _ A.in1 (Builtin.Builtins.bindParams "max" ["key", "default"] 0 ⟨[], [(Str.ofString "key", .ref q), (Str.ofString "default", .none)]⟩ >>= _) _ _ s
  refine wpAny_bind (wpAny_of_eq (show Builtin.Builtins.bindParams "max" ["key", "default"] 0 ⟨[], [(Str.ofString "key", .ref q), (Str.ofString "default", .none)]⟩ = pure [some (.ref q), some .none] from rfl) ?_)
  refine wpAny_bind (wpAny_pure ?_)
  refine wpAny_bind (wpAny_pyIter_list hl ?_)
  refine wpAny_bind (wpAny_newList ?_ (Nat.zero_le _))
  rw [nm]
  have sI : (s.heap.push { cls := .type "list_iterator", data := .fields #[.ref l, .int 0 0] }).objs.size = s.heap.objs.size + 1 := size_push' ..
  have hI : s.heap.get? s.heap.objs.size = none := Heap.get?_none_of_le (Nat.le_refl _)
  have hS : s.heap.get? (s.heap.push { cls := .type "list_iterator", data := .fields #[.ref l, .int 0 0] }).objs.size = none := by rw [sI]; exact Heap.get?_none_of_le (Nat.le_succ _)
  have hSI : (s.heap.push { cls := .type "list_iterator", data := .fields #[.ref l, .int 0 0] }).objs.size ≠ s.heap.objs.size := by rw [sI]; exact Nat.ne_of_gt (Nat.lt_succ_self _)
  refine wpAny_pure ⟨plainId_quiet PySem.F.plain_max_loop _, ?_⟩
  have kp0 : ∀ b o, s.heap.get? b = some o → ((s.heap.push { cls := .type "list_iterator", data := .fields #[.ref l, .int 0 0] }).push (seqObj "list" #[] 0)).get? b = some o := fun b o e => Heap.get?_push_of_some _ (Heap.get?_push_of_some _ e)
  have gI : ((s.heap.push { cls := .type "list_iterator", data := .fields #[.ref l, .int 0 0] }).push (seqObj "list" #[] 0)).get? s.heap.objs.size = some { cls := .type "list_iterator", data := .fields #[.ref l, .int 0 0] } :=
    Heap.get?_push_of_some _ (Heap.get?_push_size _ rfl)
  have gS : ((s.heap.push { cls := .type "list_iterator", data := .fields #[.ref l, .int 0 0] }).push (seqObj "list" #[] 0)).get? (s.heap.push { cls := .type "list_iterator", data := .fields #[.ref l, .int 0 0] }).objs.size = some (seqObj "list" #[] 0) := Heap.get?_push_size _ rfl
  generalize (s.heap.push { cls := .type "list_iterator", data := .fields #[.ref l, .int 0 0] }).objs.size = S at hS hSI gS ⊢
  generalize hIe : s.heap.objs.size = I at hI hSI gI ⊢
  have lI : l ≠ I := fun z => by rw [z, hI] at hol; cases hol
  have W := Walks.list (prog := prog) (w := w) (A := A.in1) hh I l lI vs.toArray
  have sz : vs.toArray.size = vs.length := by simp
  have nI : ∀ b o, s.heap.get? b = some o → b ∉ [I] := fun b o e z => by rw [List.mem_singleton.mp z, hI] at e; cases e
  have nS : ∀ b o, s.heap.get? b = some o → b ≠ S := fun b o e z => by rw [z, hS] at e; cases e
  refine codeAny_builtin PySem.F.entry_max_loop ?_
  rw [Around.under_plainId PySem.F.plain_max_loop _]
  show wpAny _ A.in1 (seqItems? (.ref _) >>= _) _ _ _
  refine wpAny_bind (wpAny_seqItems gS rfl ?_)
  show wpAny _ A.in1 (tryCatch (pyNext (.ref I)) _ >>= _) _ _ _
  by_cases ne : 0 < vs.length
  · refine wpAny_bind (wpAny_tryCatch (W.item 0 _ _ _ (by rw [sz]; exact ne) ⟨⟨_, gI, rfl, rfl⟩, isList_keep kp0 hl⟩ fun v h1' tk1 hP hst hk1 => ?_))
    have hv : vs[0]? = some v := by simpa using hP
    have kp1 : ∀ b o, s.heap.get? b = some o → h1'.get? b = some o := fun b o e => hk1 b o (nI b o e) (kp0 b o e)
    have gS1 := hk1 S _ (by simpa using hSI) gS
    obtain ⟨oI, hoI, rI⟩ := id hst.1
    show wpAny _ A.in1 (tryCatch (holding [v] (call (.ref q) [v])) _ >>= _) _ _ _
    refine wpAny_bind (wpAny_tryCatch (wpAny_holding (wpAny_mono (turn 0 v h1' tk1 (fun u s' => ∃ h2 tk2 t2, u = .int (kf 0) t2 ∧ s' = { s with heap := h2, toks := tk2 } ∧ ∀ b o, h1'.get? b = some o → h2.get? b = some o) hv kp1 fun h2 tk2 t2 k2 => ⟨h2, tk2, t2, rfl, rfl, k2⟩) (fun u s' hu => ?_) fun _ _ z => z.elim)))
    obtain ⟨h2, tk2, t2, rfl, rfl, k2⟩ := hu
    have gS2 := k2 _ _ gS1
    obtain ⟨c2, hc2⟩ : ∃ c2, (h2.update S (Obj.mapSeq fun _ => #[v, .int (kf 0) t2])).get? S = some (seqObj "list" #[v, .int (kf 0) t2] c2) := ⟨_, get?_update_seq gS2 fun _ => #[v, .int (kf 0) t2]⟩
    show wpAny _ A.in1 (updateSeq S (fun _ => #[v, .int (kf 0) t2]) >>= _) _ _ _
    refine wpAny_bind ?_
    refine wpAny_updateSeq gS2 rfl ?_
    rw [nm]
    refine wpAny_pure ⟨plainId_quiet PySem.F.plain_max_loop _, max_loop kf hh hl hI hS hSI turn (fun i v h' tk' a b c => h1 i v h' tk' a b c) _ 0 0 _ _ v t2 c2 rfl ne (fun b o e => ?_) hc2 ?_ hv (Nat.le_refl _) fun j' hj' => ?_⟩
    · rw [(Heap.SameBut.update h2 S _).2 b (nS b o e)]
      exact k2 b o (kp1 b o e)
    · exact ⟨oI, ((Heap.SameBut.update h2 S _).2 I hSI.symm).trans (k2 _ _ hoI), rI⟩
    · have e : j' = 0 := by omega
      subst e
      exact ⟨by omega, fun z => absurd z (Nat.lt_irrefl _)⟩
  · have e0 : vs.length = 0 := by omega
    refine wpAny_bind (wpAny_tryCatch (W.done _ _ _ ⟨by rw [sz, e0]; exact ⟨_, gI, rfl, rfl⟩, isList_keep kp0 hl⟩ fun h1' tk1 hk1 => ?_))
    refine wpAny_bind (wpAny_rule (wpAny_pure ?_))
    exact h0 e0 h1' tk1 fun b o e => hk1 b o (nI b o e) (kp0 b o e)
end
end TS

namespace L2
open PySem PySem.Spec PyProof.Rows
/-! ### a lambda in a def: the table of the def's code, the lambda's own code -/
def tabO (P : Addr) (ps : Array Value) : HO := .ext fun h => h.get? P = some (PySem.W.tabObj ps)
def cdO (c : Addr) (q : Str) : HO := .ext fun h => h.CodeRec (.ref c) q
def TabOk (H : Hp) (P : Addr) (ln : Pos) (q : Str) : Prop := H P = some (tabO P #[]) ∨ ∃ c', H P = some (tabO P #[rawInt ln.line, rawInt ln.col, .ref c']) ∧ H c' = some (cdO c' q)
def BMn (base : Heap) (mg : Str → Option Value) : Prop := ∃ bm ob, mg "__builtins__" = some (.ref bm) ∧ bm ≠ builtinsNs ∧ base.get? bm = some ob ∧ ob.cls = .type "module" ∧ ob.dict = some builtinsNs ∧ ob.data = .plain
theorem tabO_ok {Pr : Program} {w : World} {H : Hp} {h : Heap} {P : Addr} {ps : Array Value} (e : h.get? P = some (PySem.W.tabObj ps)) : ObjOk Pr w H h P (tabO P ps) := ⟨e, ⟨_, e⟩, fun _ _ a k => k _ a⟩
theorem cdO_ok {Pr : Program} {w : World} {H : Hp} {h : Heap} {c : Addr} {q : Str} (e : h.CodeRec (.ref c) q) : ObjOk Pr w H h c (cdO c q) := by
  refine ⟨e, ?_, fun h1 h2 a k => ?_⟩
  · obtain ⟨c₂, o, vs, t, e0, e1, _⟩ := e
    cases e0
    exact ⟨o, e1⟩
  · obtain ⟨c₂, o, vs, t, e0, e1, e2⟩ := a
    cases e0
    exact ⟨c, o, vs, t, rfl, k _ e1, e2⟩
section
variable {X : Cx} {pins : List (Addr × Obj)} {σ : St} {H : Hp} {s : Shared}
theorem Inv.tab (I : Inv X pins σ H s) {P : Addr} {ps : Array Value} (e : H P = some (tabO P ps)) : s.heap.get? P = some (PySem.W.tabObj ps) := (I.hok P _ e).1
theorem Inv.cd (I : Inv X pins σ H s) {c : Addr} {q : Str} (e : H c = some (cdO c q)) : s.heap.CodeRec (.ref c) q := (I.hok c _ e).1
theorem Inv.tabbed (I : Inv X pins σ H s) {P c : Addr} {ps ps' : Array Value} {q : Str} {h' h2 : Heap} {t' : Nat} (e : H P = some (tabO P ps)) (hx : Heap.ExtBut P s.heap h') (hc : s.heap.objs.size ≤ c) (hr : h'.CodeRec (.ref c) q) (ht : h'.get? P = some (PySem.W.tabObj ps'))
    (k2 : ∀ b o, h'.get? b = some o → h2.get? b = some o) : Inv X pins σ (upd (upd H P (tabO P ps')) c (cdO c q)) { s with heap := h2, toks := t' } := by
  have hn : H c = none := I.hok.fresh hc
  have ncP : c ≠ P := fun z => by rw [z, e] at hn; cases hn
  have lt : ∀ b o, s.heap.get? b = some o → b ≠ c := fun b o q => Nat.ne_of_lt (Nat.lt_of_lt_of_le (Heap.lt_size q) hc)
  have neP : ∀ b, H b = none → b ≠ P := fun b q z => by rw [z, e] at q; cases q
  have other : ∀ b u, (∀ φ, u ≠ HO.ext φ) → H b = some u → upd (upd H P (tabO P ps')) c (cdO c q) b = some u := fun b u hu q => by
    rw [upd_ne (fun z => by rw [z, hn] at q; cases q), upd_ne (fun z => by rw [z, e] at q; cases q; exact hu _ rfl)]
    exact q
  have kp : ∀ b o, b ≠ P → s.heap.get? b = some o → h2.get? b = some o := fun b o hb q => k2 b o (hx b o hb q)
  refine I.un ⟨fun b o q n _ _ => kp b o (neP b n) q, fun b o q n _ _ => ⟨o.slots, kp b o (neP b n) q⟩, fun b o q n _ => ?_, fun b o q _ => ?_, fun b xs q => other b _ (fun _ z => by cases z) q, fun b o u q => other b _ (fun _ z => by cases z) q, fun b ps q => ⟨#[], by rw [other b _ (fun _ z => by cases z) q]; simp⟩⟩ fun b u q => ?_
  · rw [upd_ne (lt b o q), upd_ne (neP b n)]
    exact n
  · by_cases z : b = P
    · subst z; exact ⟨_, k2 _ _ ht⟩
    · exact ⟨o, kp b o z q⟩
  · by_cases z : b = c
    · subst z
      rw [upd_same] at q
      cases q
      exact cdO_ok (TS.codeRec_keep k2 hr)
    · rw [upd_ne z] at q
      by_cases z2 : b = P
      · subst z2
        rw [upd_same] at q
        cases q
        exact tabO_ok (k2 _ _ ht)
      · rw [upd_ne z2] at q
        refine (I.hok b u q).stay (fun d v hd qd => kp d v ?_ qd) (fun d qd => other d _ (fun _ z => by cases z) qd) fun d xs qd => other d _ (fun _ z => by cases z) qd
        rcases hd with hd | hd
        · rw [hd]; exact z2
        · intro z3
          rw [z3, e] at hd
          cases hd
end
theorem sq_off {K : PySem.W.Frag} {H1 H2 : Hp} {l : Addr} {vs : List V} (k : ∀ b u, (∀ φ, u ≠ HO.ext φ) → H1 b = some u → H2 b = some u) (h : SqL K H1 l vs) : SqL K H2 l vs := by
  rcases h with (h | ⟨o, h⟩) | h
  · exact .inl (.inl (k _ _ (fun _ z => by cases z) h))
  · exact .inl (.inr ⟨o, k _ _ (fun _ z => by cases z) h⟩)
  · exact .inr h
def tMaxL (K : PySem.W.Frag) (P : Addr) (ln : Pos) (lq : Str) (ta : TA) : TE := fun σ H Q => ta σ H fun zs H1 => ∃ (l : Addr) (vs : List V) (xs : List TS.T3), zs = [.ref l] ∧ SqL K H1 l vs ∧ Paired (Tw H1) vs xs ∧ TabOk H1 P ln lq ∧
  ∀ H2, (∀ b u, b ≠ P → H1 b = some u → H2 b = some u) → TabOk H2 P ln lq → (xs = [] → Q .non H2) ∧ ∀ i v x, vs[i]? = some v → xs[i]? = some x → TS.Best (fun j => (xs.getD j (0, 0, 0)).2.2) xs.length i → Q v H2
theorem pe_maxL {X : Cx} {c P : Addr} {e : Expr} {ta : TA} {p pos lpos cpos kp1 kp2 : Pos} {j : Nat} {ps : Arguments} {body : Expr} {sc : Scope} (hcode : X.env.code = .ref c) (hC : PySem.W.codeHdIn X.K c P = true) (hbm : BMn X.base X.mg) (hcalm : X.calm = true) (hroom : X.A.depth < recursionLimit)
    (T : TS.Third ps body sc) (hg : Gl X "max") (hm : X.mg "max" = none) (hv : bootBuiltins "max" = some (.builtin "max")) (ha : PA X [e] ta) (hd0 : defaultsOf ps X.env = ([], []) := by rfl) (hcl : closureFor sc X.env = pure [] := by rfl)
    (he : backTo pos (starEach [e] X.env) = (false, eval e X.env) :: backTo pos (starEach [] X.env) := by rfl) (hpl : (backTo pos (starEach [e] X.env)).any (·.1) = false := by rfl) :
    PE X (.Call (.Name "max" p) [e] [⟨some (Str.ofString "key"), .Lambda ps body sc lpos, kp1⟩, ⟨some (Str.ofString "default"), .Constant .none j cpos, kp2⟩] pos) (tMaxL X.K P lpos (X.env.qual ++ "<lambda>") ta) := by
  intro pins s σ H Q I h
  refine wpAny_Call_Name_kw (ld_blt I hg hm hv ?_)
  refine callWith_kw (thn (ha pos pins s σ H _ I h) fun us s1 ⟨zs, H1, I1, r1, q1⟩ => ?_) he hpl rfl rfl
  obtain ⟨l, vs, xs, rfl, hq, hP, hT, k⟩ := q1
  obtain ⟨u, rfl, rx⟩ := vals1 r1
  cases rx
  refine kws_cons (PySem.W.kla_eval hd0 ?_)
  have hgs : s1.heap.Ns mainGlobals X.mg := I1.mod.glob.keeps I1.bk
  obtain ⟨bm, ob, b1, b2, b3, b4, b5, b6⟩ := hbm
  have b3' := I1.bk _ _ b3
  have hCh := PySem.W.codeHd_of_K I1.kIn hC
  -- behind the lambda's making
  have after : ∀ (q : Addr) (H2 : Hp) (s2 : Shared), Inv X pins σ H2 s2 → (∀ b u, b ≠ P → H1 b = some u → H2 b = some u) → TabOk H2 P lpos (X.env.qual ++ "<lambda>") → SqL X.K H2 l vs → TS.IsLam s2.heap q (X.env.qual ++ "<lambda>") ps body sc →
      wpAny (model X.prog X.w) X.A (evalAll ((backToKw pos (keywordEach [⟨some (Str.ofString "default"), .Constant .none j cpos, kp2⟩] X.env)).map (·.2)))
        (fun kvs s₂ => wpAny (model X.prog X.w) X.A (call (.builtin "max") [.ref l] (((backToKw pos (keywordEach [⟨some (Str.ofString "key"), .Lambda ps body sc lpos, kp1⟩, ⟨some (Str.ofString "default"), .Constant .none j cpos, kp2⟩] X.env)).filterMap (·.1)).zip (.ref q :: kvs))) (EP X pins σ Q) X.xe s₂) X.xe s2 := by
    intro q H2 s2 I2 hH2 hT2 hq2 hLam
    refine kws_cons (Constant_none (kws_nil ?_))
    show wpAny _ X.A (call (.builtin "max") [.ref l] [(Str.ofString "key", .ref q), (Str.ofString "default", .none)]) _ _ s2
    obtain ⟨k0, k1⟩ := k H2 hH2 hT2
    have hP2 : Paired (Tw H2) vs xs := Paired.mapP hP fun v t ⟨a, ea, eb⟩ => by
      refine ⟨a, ea, hH2 a _ (fun z => ?_) eb⟩
      rw [z] at eb
      rcases hT with hT | ⟨_, hT, _⟩
      · rw [hT] at eb; cases eb
      · rw [hT] at eb; cases eb
    obtain ⟨its, r', pl, hz⟩ := I2.list hq2
    have hlen := r'.length
    have hlx := Paired.length hP2
    refine TS.call_maxK (kf := fun i => (xs.getD i (0, 0, 0)).2.2) (I2.ok.hd hcalm) pl.isList (fun i v h tk Q' hv' kp hQ => ?_) (fun e0 h' tk' kp => ?_) fun i v h' tk' hv' hb kp => ?_
    · have hi : i < its.length := (List.getElem?_eq_some_iff.mp hv').1
      have hi1 : i < vs.length := by omega
      obtain ⟨x, hx, tw⟩ := GP.Paired.at hP2 (List.getElem?_eq_getElem hi1)
      obtain ⟨u', eu, ru⟩ := r'.get (List.getElem?_eq_getElem hi1)
      rw [hv'] at eu
      cases eu
      have a3 := at3_of I2 tw ru
      have ex : xs.getD i (0, 0, 0) = x := by rw [List.getD_eq_getElem?_getD, hx]; rfl
      refine TS.lam_call (s := { s2 with heap := h, toks := tk }) (A := X.A.in1) (t := x) (hLam.keep kp) T (a3.keep fun b o _ z => kp b o z) (I2.nolimit.keeps kp) hroom fun h' tk' u2 kp2 => ?_
      have := hQ h' tk' u2 kp2
      rw [ex] at this
      exact this
    · exact ⟨.non, H2, I2.kept kp, rfl, k0 (List.length_eq_zero_iff.mp (by omega))⟩
    · have hi : i < its.length := (List.getElem?_eq_some_iff.mp hv').1
      have hi1 : i < vs.length := by omega
      obtain ⟨x, hx, tw⟩ := GP.Paired.at hP2 (List.getElem?_eq_getElem hi1)
      obtain ⟨u', eu, ru⟩ := r'.get (List.getElem?_eq_getElem hi1)
      rw [hv'] at eu
      cases eu
      refine ⟨vs[i], H2, I2.kept kp, ru, k1 i _ x (List.getElem?_eq_getElem hi1) hx ?_⟩
      rw [show xs.length = its.length by omega]
      exact hb
  have off : ∀ b, H1 b = none → b ≠ P := fun b q z => by
    rcases hT with hT | ⟨_, hT, _⟩
    · rw [z, hT] at q; cases q
    · rw [z, hT] at q; cases q
  have notP : ∀ {ps' : Array Value}, H1 P = some (tabO P ps') → s1.heap.get? P = some (PySem.W.tabObj ps') → mainGlobals ≠ P ∧ bm ≠ P := fun {ps'} e e' => by
    refine ⟨fun z => ?_, fun z => ?_⟩
    · obtain ⟨o, es, ep, eo, hd, _⟩ := hgs
      rw [z, e'] at eo; cases eo; cases hd
    · rw [z, e'] at b3'; cases b3'; cases b4
  have bmG : bm ≠ mainGlobals := fun z => by
    obtain ⟨o, es, ep, eo, hd, _⟩ := hgs
    rw [z, eo] at b3'; cases b3'; rw [hd] at b6; cases b6
  rcases id hT with e0 | ⟨c', e0, ec⟩
  · have tb := I1.tab e0
    obtain ⟨n1, n2⟩ := notP e0 tb
    refine PySem.W.kla_makeFunction (mg := X.mg) (ps := #[]) hcl I1.ok.glob hgs hcode hCh tb trivial rfl n1 ⟨bm, ob, b1, b2, bmG, n2, b3', b4, b5, b6⟩ fun c' ctv h' tk hx hge hlt hrec htb => ?_
    have hcn : H1 c' = none := I1.hok.fresh hge
    have ncP : P ≠ c' := fun z => off c' hcn z.symm
    have htb' : h'.get? P = some (PySem.W.tabObj #[rawInt lpos.line, rawInt lpos.col, .ref c']) := by
      have := htb
      rwa [show (#[] : Array Value) ++ #[rawInt lpos.line, rawInt lpos.col, Value.ref c'] = #[rawInt lpos.line, rawInt lpos.col, Value.ref c'] from rfl] at this
    refine after _ (upd (upd H1 P (tabO P #[rawInt lpos.line, rawInt lpos.col, .ref c'])) c' (cdO c' (X.env.qual ++ "<lambda>"))) _ (I1.tabbed e0 hx hge hrec htb' fun b o q => Heap.get?_push_of_some _ q) (fun b u hb q => ?_) (.inr ⟨c', by rw [upd_ne ncP, upd_same], upd_same⟩) ?_ ⟨_, c', ctv, Heap.get?_push_size _ rfl, TS.codeRec_keep (fun b o q => Heap.get?_push_of_some _ q) hrec⟩
    · rw [upd_ne (fun z => by rw [z, hcn] at q; cases q), upd_ne hb]
      exact q
    · refine sq_off (fun b u hu q => ?_) hq
      rw [upd_ne (fun z => by rw [z, hcn] at q; cases q), upd_ne (fun z => by rw [z, e0] at q; cases q; exact hu _ rfl)]
      exact q
  · have tb := I1.tab e0
    obtain ⟨n1, n2⟩ := notP e0 tb
    refine PySem.W.kla_makeFunctionHit (mg := X.mg) (ps := #[rawInt lpos.line, rawInt lpos.col, .ref c']) (cv := .ref c') hcl I1.ok.glob hgs hcode hCh tb ?_ ?_ ⟨bm, ob, b1, b2, bmG, n2, b3', b4, b5, b6⟩ fun ctv h' tk kp hsz => ?_
    · show TriplesOk [rawInt _, rawInt _, _]
      exact trivial
    · exact codeAmong_snoc [] trivial rfl
    · exact after _ H1 _ (I1.kept fun b o q => Heap.get?_push_of_some _ (kp b o q)) (fun b u _ q => q) hT hq ⟨_, c', ctv, Heap.get?_push_size _ rfl, TS.codeRec_keep (fun b o q => Heap.get?_push_of_some _ (kp b o q)) (I1.cd ec)⟩
end L2

namespace L2
open PySem PySem.Spec PyProof.Rows
/-! ### a def of the module that makes a lambda: its code's table -/
def lamTab (K : PySem.W.Frag) (n : Str) : Addr := match PySem.W.nsIn K mainGlobals n with
  | some (some (.ref f)) => (match K.lookup f with
    | some ⟨_, _, .func fd, _⟩ => (match fd.code with
      | .ref c => (match K.lookup c with
        | some ⟨_, _, .fields vs, _⟩ => (match (vs[11]? : Option Value) with | some (.ref P) => P | _ => 0)
        | _ => 0)
      | _ => 0)
    | _ => 0)
  | _ => 0
def lamOk (K : PySem.W.Frag) (n : Str) : Bool := match PySem.W.nsIn K mainGlobals n with
  | some (some (.ref f)) => (match K.lookup f with
    | some ⟨_, _, .func fd, _⟩ => (match fd.code with
      | .ref c => PySem.W.codeHdIn K c (lamTab K n) && (K.lookup (lamTab K n)).isNone
      | _ => false)
    | _ => false)
  | _ => false
theorem lam_code {K : PySem.W.Frag} {n : Str} {f : Addr} {oc : Value} {od : Option Addr} {fd : FuncData} {osl : Array (Option Value)} (h : lamOk K n = true) (a : PySem.W.nsIn K mainGlobals n = some (some (.ref f))) (l : K.lookup f = some ⟨oc, od, .func fd, osl⟩) :
    ∃ c, fd.code = .ref c ∧ PySem.W.codeHdIn K c (lamTab K n) = true := by
  unfold lamOk at h
  rw [a] at h
  simp only [l] at h
  split at h
  · rename_i c hc
    exact ⟨c, hc, (Bool.and_eq_true_iff.mp h).1⟩
  · cases h
theorem lam_some {K : PySem.W.Frag} {n : Str} (h : lamOk K n = true) : (∃ c, PySem.W.codeHdIn K c (lamTab K n) = true) ∧ K.lookup (lamTab K n) = none := by
  unfold lamOk at h
  split at h
  · split at h
    · split at h
      · obtain ⟨h1, h2⟩ := Bool.and_eq_true_iff.mp h
        exact ⟨⟨_, h1⟩, Option.isNone_iff_eq_none.mp h2⟩
      · cases h
    · cases h
  · cases h
section
variable {P : Program} {w : World} {K : PySem.W.Frag} {mg : Str → Option Value} {base : Heap}
theorem Fun.okL {x qual : Str} {st : Stmt} {f : Addr} {fd : FuncData} {N ps : List Str} {k : Nat} {sp : Sp} (F : Fun K x qual st f fd) (hlam : lamOk K x = true) (hns : PySem.W.nsIn K mainGlobals x = some (some (.ref f))) (S : FnScope N ps (defScope st)) (len : ∀ vs H Q E, sp vs H Q E → vs.length = ps.length)
    (hbody : ∀ (c : Addr) (A : Around) (outer : List Env) (s : Shared) (H : Hp) (vs : List V) (Q : VK) (E : XK), PySem.W.codeHdIn K c (lamTab K x) = true → Room k (A.deeper (envOfC qual (defScope st) s.heap.objs.size f (.ref c))) → sp vs H Q E →
      ∃ t, PSs (cxOf CX0 P w K mg base N qual (defScope st) f (.ref c) A outer s H E).nox (defBody st) t ∧ t { nx := fun _ H' => Q .non H', rt := Q } (start N vs) H) : FnOk P w K mg base CX0 (k + 1) f fd ps sp := by
  obtain ⟨oc, od, kV, doc, pm, an, cdv, ct, osl, rfl, lk, hcd⟩ := F.ex
  obtain ⟨c, e1, e2⟩ := lam_code hlam hns lk
  have e1' : cdv = .ref c := e1
  subst e1'
  refine fn_of lk hcd S len fun A outer s H vs Q E hr hsp => ?_
  obtain ⟨t, h, q⟩ := hbody c A outer s H vs Q E e2 hr hsp
  exact ⟨t, h.nox, q⟩
end
set_option maxHeartbeats 1000000 in
theorem law_callT {P : Program} {w : World} {K : PySem.W.Frag} {mg mb : Str → Option Value} {CX : CXT} {k : Nat} {fa a pT : Addr} {fd : FuncData} {x : Str} {sp : Sp} {s₁ : Shared} {vs : List Value} {ns : List Int} {ln : Pos} {lq : Str}
    (KX : K.In s₁.heap) (hns : s₁.heap.Ns mainGlobals mg) (hb : s₁.heap.Ns builtinsNs mb) (hbb : ∀ x : Str, x ≠ "__name__" → mb x = bootBuiltins x) (hlim : s₁.heap.NoLimit) (hg : s₁.gens = #[]) (hbm : BMn s₁.heap mg)
    (hT : s₁.heap.get? pT = some (PySem.W.tabObj #[])) (hTk : K.lookup pT = none) (hTc : ∃ c, PySem.W.codeHdIn K c pT = true)
    (ha : s₁.heap.get? a = some { cls := .type "list", data := .seq vs.toArray }) (hi : IntsAre vs ns) (hl : ns.length ≤ sizeLine) (hr : Room k callerA)
    (F : ∀ base : Heap, K.In base → base.Ns mainGlobals mg → BMn base mg → FnOk P w K mg base CX k fa fd [x] sp) (hbind : ∀ (s : Shared) (u : Value), BindsTo s fd ⟨[u], []⟩ [(x, u)])
    (hsp : ∀ H : Hp, H pT = some (tabO pT #[]) → SqL K H a (ns.map V.int) → sp [.ref a] H (fun v H' => v = .bl true ∧ TabOk H' pT ln lq) fun _ _ _ => False)
    (hCX : ∀ H e s', CX [] H s₁ (fun _ _ _ => False) e s' → False) :
    codeAny (model P w) callerA (.call (.ref fa) ⟨[.ref a], []⟩) (fun r s' => r = .ok (.ret (.bool true)) ∧ OldK s₁.heap s'.heap ∧ s'.os = s₁.os ∧ AllBare s'.gens) s₁ := by
  have rv := vals_ints hi
  have lenV := hi.length
  have nPa : pT ≠ a := fun z => by rw [z, ha] at hT; cases hT
  have core : ∀ H : Hp, (∀ b, H b = none ∨ b = pT ∨ ∃ o xs, H b = some (.frz o (.lst xs))) → H pT = some (tabO pT #[]) → SqL K H a (ns.map V.int) → HOk P w H s₁.heap → (∀ b, H b ≠ none → b = a ∨ b = pT) → (H a ≠ none → K.lookup a = none) →
      codeAny (model P w) callerA (.call (.ref fa) ⟨[.ref a], []⟩) (fun r s' => r = .ok (.ret (.bool true)) ∧ OldK s₁.heap s'.heap ∧ s'.os = s₁.os ∧ AllBare s'.gens) s₁ := by
    intro H hO hPt hS hok hA hK
    have baseOf : ∀ {b : Addr} {o : Obj}, s₁.heap.get? b = some o → H b = none → (hidT s₁.heap H).get? b = some o := fun e n => hidT_get e n
    have free : ∀ {b : Addr} {o : Obj}, s₁.heap.get? b = some o → o ≠ { cls := .type "list", data := .seq vs.toArray } → o ≠ PySem.W.tabObj #[] → H b = none := fun {b o} e d1 d2 => by
      cases q : H b with
      | none => rfl
      | some u =>
        rcases hA b (by rw [q]; simp) with e' | e'
        · subst e'; rw [ha] at e; cases e; exact absurd rfl d1
        · subst e'; rw [hT] at e; cases e; exact absurd rfl d2
    have nsK : ∀ {b : Addr} {m : Str → Option Value}, s₁.heap.Ns b m → (hidT s₁.heap H).Ns b m := fun {b m} ⟨o, es, ep, e, d, r⟩ => ⟨o, es, ep, baseOf e (free e (fun z => by rw [z] at d; cases d) (fun z => by rw [z] at d; cases d)), d, r⟩
    have hKb : K.In (hidT s₁.heap H) := fun b o e => baseOf (KX b o e) (by
      cases q : H b with
      | none => rfl
      | some u =>
        rcases hA b (by rw [q]; simp) with e' | e'
        · subst e'; rw [hK (by rw [q]; simp)] at e; cases e
        · subst e'; rw [hTk] at e; cases e)
    have hBb : BMn (hidT s₁.heap H) mg := by
      obtain ⟨bm, ob, b1, b2, b3, b4, b5, b6⟩ := hbm
      exact ⟨bm, ob, b1, b2, baseOf b3 (free b3 (fun z => by rw [z] at b6; cases b6) (fun z => by rw [z] at b6; cases b6)), b4, b5, b6⟩
    have hM : Mod K mg (hidT s₁.heap H) := ⟨hKb, nsK hns, ⟨mb, nsK hb, hbb⟩, let ⟨mc, h1, h2⟩ := hlim; ⟨mc, nsK h1, h2⟩⟩
    have e0 : Env0 P w K mg (hidT s₁.heap H) callerA [] s₁ H := ⟨rfl, hM, fun b o e => of_hidT e, Nat.le_of_eq (hidT_size _ _), trivial, fun b hb => absurd (show b ∈ ([] : List Addr) from hb) (by simp), hok, .of_eq hg⟩
    refine codeAny_mono ((F _ hKb (nsK hns) hBb).run callerA [] s₁ H ⟨[.ref a], []⟩ [.ref a] [.ref a] _ _ hr e0 (hbind s₁ (.ref a)) (.cons rfl .nil) (hsp H hPt hS)) fun r s' h => ?_
    cases r with
    | error e => exact (hCX H e s' h).elim
    | ok fl =>
      cases fl with
      | next => exact False.elim h
      | brk => exact False.elim h
      | cont => exact False.elim h
      | ret u =>
        obtain ⟨v, H', os, bare, un, hok', r', q, qT⟩ := h
        have q' : v = .bl true := q
        subst q'
        obtain rfl : u = Value.bool true := r'
        obtain ⟨ps', e1⟩ : ∃ ps', s'.heap.get? pT = some (PySem.W.tabObj ps') := by
          rcases qT with z | ⟨c', z, _⟩
          · exact ⟨_, (hok' _ _ z).1⟩
          · exact ⟨_, (hok' _ _ z).1⟩
        have kp : ∀ b o, b ≠ pT → s₁.heap.get? b = some o → s'.heap.get? b = some o := fun b o hbT e => by
          cases q : H b with
          | none => exact un.keep b o e q (by intro z; exact absurd (show b ∈ ([] : List Addr) from z) (by simp)) (by simp)
          | some u =>
            rcases hO b with z | z | ⟨ob, xs, z⟩
            · rw [q] at z; cases z
            · exact absurd z hbT
            · have z2 := un.frzs b ob _ z
              obtain ⟨e1, _⟩ := hok b _ z
              obtain ⟨e2, _⟩ := hok' b _ z2
              rw [e] at e1; cases e1
              exact e2
        refine ⟨rfl, ⟨fun b o e => ?_, fun b o e => ?_⟩, os, bare⟩
        · by_cases hbT : b = pT
          · subst hbT
            rw [hT] at e
            cases e
            obtain ⟨c, hc⟩ := hTc
            have hcd := PySem.W.codeHd_of_K KX hc
            exact .inr (.inl ⟨(hcd.tab hT).isCodeTable, rfl, #[], ps', rfl, by rw [e1]; simp [PySem.W.tabObj]⟩)
          · exact .inl (kp b o hbT e)
        · by_cases hbT : b = pT
          · subst hbT; exact ⟨_, e1⟩
          · exact ⟨o, kp b o hbT e⟩
  have okT : ∀ H : Hp, ObjOk P w H s₁.heap pT (tabO pT #[]) := fun H => tabO_ok hT
  cases hk : K.lookup a with
  | some o =>
    have e := KX a o hk
    rw [ha] at e
    cases e
    refine core (fun b => if b = pT then some (tabO pT #[]) else none) (fun b => ?_) (if_pos rfl) (.inr ⟨_, vs.toArray, _, hk, rfl, rfl, rfl, by rw [List.size_toArray, lenV]; exact hl, by simpa using rv⟩) (fun b u z => ?_) (fun b z => ?_) fun z => absurd (if_neg (Ne.symm nPa)) z
    · by_cases hb : b = pT
      · exact .inr (.inl hb)
      · exact .inl (if_neg hb)
    · by_cases hb : b = pT
      · have z' := (if_pos hb).symm.trans z
        cases z'
        subst hb
        exact okT _
      · have z' := (if_neg hb).symm.trans z
        cases z'
    · by_cases hb : b = pT
      · exact .inr hb
      · exact absurd (if_neg hb) z
  | none =>
    refine core (fun b => if b = a then some (.frz { cls := .type "list", data := .seq vs.toArray } (.lst (ns.map V.int))) else if b = pT then some (tabO pT #[]) else none) (fun b => ?_) ?_ (.inl (.inr ⟨{ cls := .type "list", data := .seq vs.toArray }, if_pos rfl⟩)) (fun b u z => ?_) (fun b z => ?_) fun _ => hk
    · by_cases hb : b = a
      · exact .inr (.inr ⟨_, _, if_pos hb⟩)
      · by_cases hb2 : b = pT
        · exact .inr (.inl hb2)
        · exact .inl ((if_neg hb).trans (if_neg hb2))
    · exact (if_neg nPa).trans (if_pos rfl)
    · by_cases hb : b = a
      · have z' := (if_pos hb).symm.trans z
        cases z'
        subst hb
        exact ⟨ha, by rw [List.length_map]; exact hl, vs, _, rv, ha⟩
      · by_cases hb2 : b = pT
        · have z' := ((if_neg hb).trans (if_pos hb2)).symm.trans z
          cases z'
          subst hb2
          exact okT _
        · have z' := ((if_neg hb).trans (if_neg hb2)).symm.trans z
          cases z'
    · by_cases hb : b = a
      · exact .inl hb
      · by_cases hb2 : b = pT
        · exact .inr hb2
        · exact absurd ((if_neg hb).trans (if_neg hb2)) z
theorem walk_ofT {l : PySem.W.OpenLaw} {n k : Nat} {q : Program} {loose : List Str} {XP : (Str → Option Value) → Heap → Prop} {YP : World → Heap → Prop} {d : DefRec} {K : Params → PySem.W.Frag} {CX : World → CXT} {sp : World → Sp} {x nm : Str} {ln : Pos} {lq : Str}
    (hn : l.most = some n) (hn2 : n ≤ sizeLine) (hdf : d.params.defaults = []) (hr : Room k callerA)
    (hY : ∀ (w : World) (h : Heap), YP w h → (K w.params).In h) (hYT : ∀ (w : World) (h : Heap), YP w h → h.get? (lamTab (K w.params) nm) = some (PySem.W.tabObj #[])) (hL : ∀ w : World, lamOk (K w.params) nm = true)
    (F : ∀ (w : World) (mg : Str → Option Value) (fa : Addr) (h : Heap), (K w.params).In h → h.Ns mainGlobals mg → mg d.name = some (.ref fa) →
      ∃ fd : FuncData, (∀ (s : Shared) (u : Value), BindsTo s fd ⟨[u], []⟩ [(x, u)]) ∧
        ∀ base : Heap, (K w.params).In base → base.Ns mainGlobals mg → BMn base mg → FnOk l.prog w (K w.params) mg base (CX w) k fa fd [x] (sp w))
    (hsp : ∀ (w : World) (H : Hp) (a : Addr) (ns : List Int), ns.length ≤ n → H (lamTab (K w.params) nm) = some (tabO (lamTab (K w.params) nm) #[]) → SqL (K w.params) H a (ns.map V.int) → sp w [.ref a] H (fun v H' => v = .bl true ∧ TabOk H' (lamTab (K w.params) nm) ln lq) fun _ _ _ => False)
    (hCX : ∀ (w : World) (H : Hp) (s : Shared) (e : Value) (s' : Shared), CX w [] H s (fun _ _ _ => False) e s' → False) :
    PySem.W.WalkO q loose XP YP l.row.toRowW d [] (fun f vs => PySem.call f vs) := by
  refine Att.attach_call hn hdf fun w s₀ s₁ mg mb fa o pm cd doc a vs ns G Y ho hd hcd hmg hobj hints hlen hg => ?_
  have KX := hY w _ Y
  obtain ⟨fd, hb, hF⟩ := F w mg fa _ KX G.T.g hmg
  obtain ⟨h1, h2⟩ := lam_some (hL w)
  exact law_callT KX G.T.g G.T.b G.T.builtins G.T.nolimit hg G.T.bmain (hYT w _ Y) h2 h1 hobj hints (Nat.le_trans hlen hn2) hr hF hb (fun H hO hS => hsp w H a ns hlen hO hS) fun H e s' => hCX w H s₁ e s'
end L2
namespace GP
open PySem L2 GwM
def spLawT (K : PySem.W.Frag) (nm : Str) (ln : Pos) (lq : Str) : Sp := fun vs H Q _ => ∃ (a : Addr) (ns : List Int), vs = [.ref a] ∧ SqL K H a (ns.map V.int) ∧ ns.length ≤ 63 ∧ TabOk H (lamTab K nm) ln lq ∧ ∀ H', TabOk H' (lamTab K nm) ln lq → Q (.bl true) H'
end GP

namespace L2
open PySem PySem.Spec PyProof.Rows
theorem pe_fldEK {X : Cx} {K' : PySem.W.Frag} {e : Expr} {f : Str} {pos : Pos} {ta : TE} (hK : X.K = K') (he : PE X e ta) (hb : attributeBase e f X.env (eval e X.env) = eval e X.env) : PE X (.Attribute e f pos) (tFldE K' ta f) := by subst hK; exact pe_fldE he hb
end L2
namespace GP
open PySem L2 GwM
open TS (T3 ltT)
theorem room_dp {k : Nat} {A : Around} (h : Room k A) : A.depth < recursionLimit := by have := h.dp; omega
/-! ### all but the table stays -/
def Ofp (P : Addr) (H H' : Hp) : Prop := ∀ b u, b ≠ P → H b = some u → H' b = some u
theorem Ofp.trans {P : Addr} {H H1 H2 : Hp} (a : Ofp P H H1) (b : Ofp P H1 H2) : Ofp P H H2 := fun c u hc e => b c u hc (a c u hc e)
theorem Ofp.of {P : Addr} {H H' : Hp} (e : Same H H') : Ofp P H H' := fun b u _ q => e b u q
theorem tab_ext {H : Hp} {P : Addr} {ln : Pos} {lq : Str} (h : TabOk H P ln lq) : ∃ φ, H P = some (.ext φ) := by
  rcases h with h | ⟨_, h, _⟩
  · exact ⟨_, h⟩
  · exact ⟨_, h⟩
theorem TabOk.same {H H' : Hp} {P : Addr} {ln : Pos} {lq : Str} (h : TabOk H P ln lq) (e : Same H H') : TabOk H' P ln lq := by
  rcases h with h | ⟨c, h, h'⟩
  · exact .inl (e _ _ h)
  · exact .inr ⟨c, e _ _ h, e _ _ h'⟩
theorem TabOk.put {H : Hp} {P l : Addr} {ln : Pos} {lq : Str} {o o' : HO} (h : TabOk H P ln lq) (hl : H l = some o) (ho : ∀ φ, o ≠ .ext φ) : TabOk (L2.upd H l o') P ln lq := by
  have ne : ∀ b φ, H b = some (.ext φ) → b ≠ l := fun b φ q z => by rw [z, hl] at q; cases q; exact ho _ rfl
  rcases h with h | ⟨c, h, h'⟩
  · exact .inl (by rw [L2.upd_ne (ne _ _ h)]; exact h)
  · exact .inr ⟨c, by rw [L2.upd_ne (ne _ _ h)]; exact h, by rw [L2.upd_ne (ne _ _ h')]; exact h'⟩
theorem Ofp.keep {P : Addr} {H H' : Hp} {φ : Heap → Prop} (e : Ofp P H H') (hP : H P = some (.ext φ)) {b : Addr} {u : HO} (hu : ∀ φ, u ≠ .ext φ) (q : H b = some u) : H' b = some u :=
  e b u (fun z => by rw [z, hP] at q; cases q; exact hu _ rfl) q
theorem Ofp.tw {P : Addr} {H H' : Hp} {φ : Heap → Prop} (e : Ofp P H H') (hP : H P = some (.ext φ)) {v : V} {x : T3} (h : Tw H v x) : Tw H' v x := by
  obtain ⟨q, h1, h2⟩ := h
  exact ⟨q, h1, e.keep hP (fun _ z => by cases z) h2⟩
theorem Ofp.ctr {P : Addr} {H H' : Hp} {φ : Heap → Prop} (e : Ofp P H H') (hP : H P = some (.ext φ)) {K : PySem.W.Frag} {s t : Addr} {ns : List Int} {k : Int} (c : Ctr K H s t ns k) : Ctr K H' s t ns k := by
  refine ⟨sq_off (fun b u hu q => ?_) c.sq, c.len, e.keep hP (fun _ z => by cases z) c.at_, c.k0⟩
  exact Wo.in (Wo.ne q) (e.keep hP hu (Wo.sub b u q))
/-! ### the longest one -/
def Lg (L : List Nat) (x : T3) : Prop := FT L x ∧ ∀ y, FT L y → y.2.2 ≤ x.2.2 ∧ (ltT y x = true → y.2.2 < x.2.2)
theorem Lg.uniq {L : List Nat} {x y : T3} (h : Lg L x) (h' : Lg L y) : x = y := by
  by_cases e : x = y
  · exact e
  · exfalso
    have a := h.2 y h'.1
    have b := h'.2 x h.1
    cases q : ltT x y with
    | true => have := b.2 q; omega
    | false => have := a.2 (TS.ltT_tot e q); omega
theorem pw_lt {xs : List T3} (h : xs.Pairwise fun x y => ltT x y = true) {i j : Nat} {x y : T3} (hx : xs[i]? = some x) (hy : xs[j]? = some y) (l : ltT y x = true) : j < i := by
  obtain ⟨a, ea⟩ := List.getElem?_eq_some_iff.mp hx
  obtain ⟨b, eb⟩ := List.getElem?_eq_some_iff.mp hy
  rcases Nat.lt_trichotomy j i with z | z | z
  · exact z
  · subst z
    rw [ea] at eb
    subst eb
    rw [ltT_irr] at l
    cases l
  · have := List.pairwise_iff_getElem.mp h i j a b z
    rw [ea, eb, TS.ltT_as l] at this
    cases this
theorem lg_of {L : List Nat} {xs : List T3} (hA : AllT L xs) {i : Nat} {x : T3} (hx : xs[i]? = some x) (hb : TS.Best (fun j => (xs.getD j (0, 0, 0)).2.2) xs.length i) : Lg L x := by
  have ex : ∀ {j : Nat} {y : T3}, xs[j]? = some y → xs.getD j (0, 0, 0) = y := fun {j y} e => by rw [List.getD_eq_getElem?_getD, e]; rfl
  refine ⟨(hA.mem x).mp (List.mem_of_getElem? hx), fun y hy => ?_⟩
  obtain ⟨j, hj, e⟩ := List.getElem_of_mem ((hA.mem y).mpr hy)
  have ej : xs[j]? = some y := by rw [List.getElem?_eq_getElem hj, e]
  have b := hb j hj
  simp only [ex hx, ex ej] at b
  exact ⟨b.1, fun l => b.2 (pw_lt hA.pw hx ej l)⟩
def Bst (xs : List T3) (i k : Nat) (x : T3) : Prop := xs[k]? = some x ∧ k < i ∧ ∀ j y, j < i → xs[j]? = some y → y.2.2 ≤ x.2.2 ∧ (j < k → y.2.2 < x.2.2)
theorem Bst.lg {L : List Nat} {xs : List T3} {k : Nat} {x : T3} (hA : AllT L xs) (h : Bst xs xs.length k x) : Lg L x := by
  refine ⟨(hA.mem x).mp (List.mem_of_getElem? h.1), fun y hy => ?_⟩
  obtain ⟨j, hj, e⟩ := List.getElem_of_mem ((hA.mem y).mpr hy)
  have ej : xs[j]? = some y := by rw [List.getElem?_eq_getElem hj, e]
  have b := h.2.2 j y hj ej
  exact ⟨b.1, fun l => b.2 (pw_lt hA.pw h.1 ej l)⟩
theorem Bst.first {xs : List T3} {x : T3} (h : xs[0]? = some x) : Bst xs 1 0 x := ⟨h, Nat.lt_succ_self _, fun j y hj e => by
  have : j = 0 := by omega
  subst this
  rw [h] at e
  cases e
  exact ⟨Int.le_refl _, fun z => absurd z (Nat.lt_irrefl _)⟩⟩
theorem Bst.more {xs : List T3} {i k : Nat} {x y : T3} (h : Bst xs i k x) (hy : xs[i]? = some y) (l : x.2.2 < y.2.2) : Bst xs (i + 1) i y := ⟨hy, Nat.lt_succ_self _, fun j z hj e => by
  by_cases q : j = i
  · subst q
    rw [hy] at e
    cases e
    exact ⟨Int.le_refl _, fun z => absurd z (Nat.lt_irrefl _)⟩
  · have := (h.2.2 j z (by omega) e).1
    exact ⟨by omega, fun _ => by omega⟩⟩
theorem Bst.stay {xs : List T3} {i k : Nat} {x y : T3} (h : Bst xs i k x) (hy : xs[i]? = some y) (l : ¬ x.2.2 < y.2.2) : Bst xs (i + 1) k x := ⟨h.1, by have := h.2.1; omega, fun j z hj e => by
  by_cases q : j = i
  · subst q
    rw [hy] at e
    cases e
    have := h.2.1
    exact ⟨by omega, fun w => by omega⟩
  · exact h.2.2 j z (by omega) e⟩
theorem no_twins {L : List Nat} (h : ∀ x, ¬ FT L x) : L.Nodup := by
  have key : ∀ i j : Nat, i < j → ¬ Eq2 L i j := by
    intro i
    induction i with
    | zero => exact fun j hj e => h _ (ft_of hj (by
        rcases Nat.eq_zero_or_pos (ln L 0 j) with z | z
        · have := (ln_spec L 0 j).2
          rw [z] at this
          exact absurd e this
        · exact z) fun z => absurd z.1 (Nat.lt_irrefl _))
    | succ i ih => exact fun j hj e => h _ (ft_of hj (by
        rcases Nat.eq_zero_or_pos (ln L (i + 1) j) with z | z
        · have := (ln_spec L (i + 1) j).2
          rw [z] at this
          exact absurd e this
        · exact z) fun z => ih (j - 1) (by omega) z.2)
  rw [List.nodup_iff_pairwise_ne, List.pairwise_iff_getElem]
  intro i j hi hj hij e
  exact key i j hij ⟨L[i], List.getElem?_eq_getElem hi, by rw [List.getElem?_eq_getElem hj, e]⟩
/-! ### promises -/
def spLong (P : Addr) (ln : Pos) (lq : Str) : Sp := fun vs H Q _ => ∃ r : Str, vs = [.str r] ∧ r.cps.size ≤ 50 ∧ Sgs r.cps.toList ∧ TabOk H P ln lq ∧
  ∀ H', Ofp P H H' → TabOk H' P ln lq → ((∀ x, ¬ FT r.cps.toList x) → Q .non H') ∧ ∀ v x, Tw H' v x → Lg r.cps.toList x → Q v H'
def spLongX (C : Addr) : Sp := fun vs H _ E => ∃ (r : Str) (j : Nat), vs = [.str r] ∧ r.cps.size ≤ 1000 ∧ BadS r j ∧ ∀ dx H', Same H H' → H' dx = some (xdO dx (fldS 0 j)) → E (.ref C) (some dx) H'
def spFitL (P : Addr) (ln : Pos) (lq : Str) : Sp := fun vs H Q _ => ∃ r : Str, vs = [.str r] ∧ r.cps.size ≤ 50 ∧ Sgs r.cps.toList ∧ TabOk H P ln lq ∧ ∀ H', Ofp P H H' → TabOk H' P ln lq → Q (.bl true) H'
def spRefL : Sp := fun vs H Q _ => ∃ (r : Str) (j : Nat), vs = [.str r, .int (j : Int)] ∧ r.cps.size ≤ 1000 ∧ BadS r j ∧ ∀ H', Same H H' → Q (.bl true) H'
theorem TabOk.wo {H H' : Hp} {P t : Addr} {ln : Pos} {lq : Str} {xs : List V} (h : TabOk H P ln lq) (ht : H t = some (.lst xs)) (e : Same (Wo t H) (Wo t H')) : TabOk H' P ln lq := by
  have ne : ∀ b φ, H b = some (.ext φ) → b ≠ t := fun b φ q z => by rw [z, ht] at q; cases q
  have k : ∀ b φ, H b = some (.ext φ) → H' b = some (.ext φ) := fun b φ q => Wo.sub _ _ (e _ _ (Wo.in (ne b φ q) q))
  rcases h with h | ⟨c, h, h'⟩
  · exact .inl (k _ _ h)
  · exact .inr ⟨c, k _ _ h, k _ _ h'⟩
end GP

set_option Elab.async false
set_option linter.all false
set_option maxRecDepth 100000
set_option maxHeartbeats 4000000
namespace G61
open PySem L2 GwM GP
abbrev NM : Str := "longest_twin"
abbrev LN : Pos := ⟨42, 36, 42, 56⟩
abbrev LQ : Str := (("longest_twin" : Str) ++ ".<locals>.") ++ "<lambda>"
def top (i : Nat) : Stmt := PySem.Challenge.pw_gapweave_k61_longest_twin.main.body.getD i (.Pass ⟨0, 0, 0, 0⟩)
abbrev s_NoSign___init__ : Stmt := inClass (top 2) 0
theorem sc_NoSign___init__ : FnScope ["self", "row", "place"] ["self", "row", "place"] (defScope s_NoSign___init__) := ⟨rfl, rfl, rfl, by decide +kernel, rfl, by decide +kernel, by decide +kernel⟩
abbrev s_is_sign : Stmt := top 7
theorem sc_is_sign : FnScope ["sign", "number"] ["sign"] (defScope s_is_sign) := ⟨rfl, rfl, rfl, by decide +kernel, rfl, by decide +kernel, by decide +kernel⟩
abbrev s_check_signs_alone : Stmt := top 9
theorem sc_check_signs_alone : FnScope ["row", "place", "sign"] ["row"] (defScope s_check_signs_alone) := ⟨rfl, rfl, rfl, by decide +kernel, rfl, by decide +kernel, by decide +kernel⟩
abbrev s_lengths_ahead : Stmt := top 10
theorem sc_lengths_ahead : FnScope ["row", "i", "behind", "lengths", "j"] ["row", "i", "behind"] (defScope s_lengths_ahead) := ⟨rfl, rfl, rfl, by decide +kernel, rfl, by decide +kernel, by decide +kernel⟩
abbrev s_goes_on_ahead : Stmt := top 11
theorem sc_goes_on_ahead : FnScope ["row", "i", "j"] ["row", "i", "j"] (defScope s_goes_on_ahead) := ⟨rfl, rfl, rfl, by decide +kernel, rfl, by decide +kernel, by decide +kernel⟩
abbrev s_full_twins : Stmt := top 12
theorem sc_full_twins : FnScope ["row", "found", "lengths", "i", "j"] ["row"] (defScope s_full_twins) := ⟨rfl, rfl, rfl, by decide +kernel, rfl, by decide +kernel, by decide +kernel⟩
abbrev s_longest_twin : Stmt := top 13
theorem sc_longest_twin : FnScope ["row"] ["row"] (defScope s_longest_twin) := ⟨rfl, rfl, rfl, by decide +kernel, rfl, by decide +kernel, by decide +kernel⟩
abbrev s_law_next : Stmt := top 15
theorem sc_law_next : FnScope ["_law_script", "_law_at", "_law_cell", "_law_m"] ["_law_script", "_law_at"] (defScope s_law_next) := ⟨rfl, rfl, rfl, by decide +kernel, rfl, by decide +kernel, by decide +kernel⟩
abbrev s_law_signs : Stmt := top 16
theorem sc_law_signs : FnScope ["_law_script", "_law_at", "_law_many", "_law_some", "_law_m", "_law_signs_here", "_law_k", "_law_made", "_law_sign"] ["_law_script", "_law_at", "_law_many"] (defScope s_law_signs) := ⟨rfl, rfl, rfl, by decide +kernel, rfl, by decide +kernel, by decide +kernel⟩
abbrev s_law_same : Stmt := top 17
theorem sc_law_same : FnScope ["_law_found", "_law_due"] ["_law_found", "_law_due"] (defScope s_law_same) := ⟨rfl, rfl, rfl, by decide +kernel, rfl, by decide +kernel, by decide +kernel⟩
abbrev s_law_drawn_row : Stmt := top 18
theorem sc_law_drawn_row : FnScope ["_law_script", "_law_at", "_law_most", "_law_m", "_law_signs_here", "_law_row", "_law_k", "_law_cell", "_law_spot", "_law_part", "_law_half"] ["_law_script", "_law_at", "_law_most"] (defScope s_law_drawn_row) := ⟨rfl, rfl, rfl, by decide +kernel, rfl, by decide +kernel, by decide +kernel⟩
abbrev s_law_runs : Stmt := top 19
theorem sc_law_runs : FnScope ["_law_row", "_law_found", "_law_gap", "_law_many", "_law_i"] ["_law_row"] (defScope s_law_runs) := ⟨rfl, rfl, rfl, by decide +kernel, rfl, by decide +kernel, by decide +kernel⟩
abbrev s_law_fits : Stmt := top 20
theorem sc_law_fits : FnScope ["_law_row", "_law_best", "_law_twin", "_law_found"] ["_law_row"] (defScope s_law_fits) := ⟨rfl, rfl, rfl, by decide +kernel, rfl, by decide +kernel, by decide +kernel⟩
abbrev s_law_refused : Stmt := top 21
theorem sc_law_refused : FnScope ["_law_row", "_law_place", "_law_found", "e"] ["_law_row", "_law_place"] (defScope s_law_refused) := ⟨rfl, rfl, rfl, by decide +kernel, rfl, by decide +kernel, by decide +kernel⟩
abbrev s_law : Stmt := top 22
theorem sc_law : FnScope ["_law_script", "_law_at", "_law_row", "_law_part", "_law_n", "_law_place", "_law_strange", "_law_spot", "_law_other"] ["_law_script"] (defScope s_law) := ⟨rfl, rfl, rfl, by decide +kernel, rfl, by decide +kernel, by decide +kernel⟩
structure Pm where
  t_FIRST_SIGN : Tok
  t_LAST_SIGN : Tok
  a_NO_SIGNS : Addr
  C_WeaveError : Addr
  C_NoSign : Addr
structure Txt (K : PySem.W.Frag) (mg : Str → Option Value) (p : Pm) (base : Heap) : Prop where
  z_len : mg "len" = none
  z_ord : mg "ord" = none
  z_all : mg "all" = none
  z_isinstance : mg "isinstance" = none
  z_int : mg "int" = none
  z_bool : mg "bool" = none
  z_str : mg "str" = none
  z_list : mg "list" = none
  z_tuple : mg "tuple" = none
  z_dict : mg "dict" = none
  z_zip : mg "zip" = none
  z_enumerate : mg "enumerate" = none
  z_range : mg "range" = none
  z_sorted : mg "sorted" = none
  z_max : mg "max" = none
  z_set : mg "set" = none
  g_FIRST_SIGN : mg "FIRST_SIGN" = some (.int 32 p.t_FIRST_SIGN)
  g_LAST_SIGN : mg "LAST_SIGN" = some (.int 126 p.t_LAST_SIGN)
  g_NO_SIGNS : mg "NO_SIGNS" = some (.ref p.a_NO_SIGNS)
  q_NO_SIGNS : ∀ H : Hp, SqT K H p.a_NO_SIGNS [.int 34, .int 37, .int 45]
  mg_WeaveError : mg "WeaveError" = some (.ref p.C_WeaveError)
  mg_NoSign : mg "NoSign" = some (.ref p.C_NoSign)
  xb_NoSign : XB K p.C_NoSign
  xt_NoSign : XTy K p.C_NoSign
  xs_NoSign : XSt K p.C_NoSign
  xk_NoSign : ∃ f, XClsI K p.C_NoSign f
  n_NoSign_row : NoAttr K p.C_NoSign "row"
  n_NoSign_place : NoAttr K p.C_NoSign "place"
  xw_WeaveError : XBase K p.C_WeaveError
  ks_NoSign_NoSign : PySem.W.subIn K (.ref p.C_NoSign) (.ref p.C_NoSign) = some true
  bm : BMn base mg
  lk_longest_twin : lamOk K "longest_twin" = true
  ln_longest_twin : ∀ f, mg "longest_twin" = some (.ref f) → PySem.W.nsIn K mainGlobals "longest_twin" = some (some (.ref f))
theorem bo_len : bootBuiltins "len" = some (.builtin "len") := by decide +kernel
theorem bo_ord : bootBuiltins "ord" = some (.builtin "ord") := by decide +kernel
theorem bo_all : bootBuiltins "all" = some (.builtin "all") := by decide +kernel
theorem bo_isinstance : bootBuiltins "isinstance" = some (.builtin "isinstance") := by decide +kernel
theorem bo_int : bootBuiltins "int" = some (.type "int") := by decide +kernel
theorem bo_bool : bootBuiltins "bool" = some (.type "bool") := by decide +kernel
theorem bo_str : bootBuiltins "str" = some (.type "str") := by decide +kernel
theorem bo_list : bootBuiltins "list" = some (.type "list") := by decide +kernel
theorem bo_tuple : bootBuiltins "tuple" = some (.type "tuple") := by decide +kernel
theorem bo_dict : bootBuiltins "dict" = some (.type "dict") := by decide +kernel
theorem bo_sorted : bootBuiltins "sorted" = some (.builtin "sorted") := by decide +kernel
theorem bo_max : bootBuiltins "max" = some (.builtin "max") := by decide +kernel
theorem bo_set : bootBuiltins "set" = some (.type "set") := by decide +kernel
section
variable {P : Program} {w : World} {K : PySem.W.Frag} {mg : Str → Option Value} {base : Heap}
theorem ok_is_sign {f_is_sign : Addr} {fd_is_sign : FuncData} {p : Pm} (T : Txt K mg p base) (D_is_sign : Dn K mg "is_sign" s_is_sign ["sign"] f_is_sign fd_is_sign)  : FnOk P w K mg base CX0 1 f_is_sign fd_is_sign ["sign"] spIsSign := by
  refine D_is_sign.fn.ok sc_is_sign (fun vs H Q E h => ?_) (fun cdv A outer s H vs Q E hr h => ?_)
  · obtain ⟨c, rfl, _⟩ := h
    rfl
  · obtain ⟨c, rfl, k⟩ := h
    refine ⟨_, (pss_cons (ps_set (i := 1) sc_is_sign.nd rfl (Or.inl rfl) (pe_callB (call_ord) rfl T.z_ord bo_ord (pa_cons (pv 0) pa_nil)))
      (pss_one (ps_ret (pe_and (pe_chain op_le op_le (pe_glob (v := .int 32) rfl T.g_FIRST_SIGN ⟨_, rfl⟩) (pv 1) (pe_glob (v := .int 126) rfl T.g_LAST_SIGN ⟨_, rfl⟩)) (pe_one (pe_cmpR op_notIn_seq (pv 1) (pe_glob (v := .ref p.a_NO_SIGNS) rfl T.g_NO_SIGNS rfl) (by with_unfolding_all rfl))))))), ?_⟩
    refine ⟨_, rfl, _, rfl, rfl, ?_⟩
    have k' : Q (.bl ((decide ((32 : Int) ≤ (c : Int)) && decide ((c : Int) ≤ 126)) && !inV (.int c) [.int 34, .int 37, .int 45])) H := k
    refine ⟨_, rfl, _, _, rfl, rfl, _, rfl, ?_⟩
    refine ite_dec (fun h1 => ?_) (fun h1 => ?_)
    · refine ⟨_, _, rfl, rfl, _, rfl, ?_⟩
      have h1' : (32 : Int) ≤ (c : Int) := h1
      rw [decide_eq_true h1', Bool.true_and] at k'
      refine ite_dec (fun h2 => ?_) (fun h2 => ?_)
      · have h2' : (c : Int) ≤ 126 := h2
        rw [decide_eq_true h2', Bool.true_and] at k'
        exact ⟨_, rfl, _, _, rfl, .inr (T.q_NO_SIGNS _), rfl, rfl, k'⟩
      · have h2' : ¬ (c : Int) ≤ 126 := h2
        rw [decide_eq_false h2', Bool.false_and] at k'
        exact k'
    · have h1' : ¬ (32 : Int) ≤ (c : Int) := h1
      rw [decide_eq_false h1', Bool.false_and, Bool.false_and] at k'
      exact ⟨_, rfl, iteF k'⟩
theorem ok_law_next {f_law_next : Addr} {fd_law_next : FuncData} {p : Pm} (T : Txt K mg p base) (D_law_next : Dn K mg "_law_next" s_law_next ["_law_script", "_law_at"] f_law_next fd_law_next)  : FnOk P w K mg base CX0 1 f_law_next fd_law_next ["_law_script", "_law_at"] (spNext K) := by
  refine D_law_next.fn.ok sc_law_next (fun vs H Q E h => ?_) (fun cdv A outer s H vs Q E hr h => ?_)
  · obtain ⟨s, t, ns, k, rfl, _⟩ := h
    rfl
  · obtain ⟨s, t, ns, k, rfl, hC, hk2, kk⟩ := h
    have hS := hC.scr
    have hS2 := hC.scr'
    have ht := hC.at_
    have hk := hC.k0
    refine ⟨_, (pss_cons (ps_asg (pe_op op_add (pe_ix ix_list (pv 1) pe_int (fun _ _ => rfl)) pe_int) (pg_sub (pv 1) pe_int set_list))
      (pss_cons (ps_set (i := 2) sc_law_next.nd rfl (Or.inl rfl) pe_int)
      (pss_cons (ps_if (pt_cmpR op_gt (pe_callB (call_len) rfl T.z_len bo_len (pa_cons (pv 0) pa_nil)) pe_int (nomark _)) (pss_one (ps_set (i := 2) sc_law_next.nd rfl (Or.inl rfl) (pe_ix ix_list (pv 0) (pe_op op_mod (pe_ix ix_list (pv 1) pe_int (fun _ _ => rfl)) (pe_callB (call_len) rfl T.z_len bo_len (pa_cons (pv 0) pa_nil))) (fun _ _ => rfl)))) pss_nil)
      (pss_cons (ps_set (i := 3) sc_law_next.nd rfl (Or.inl rfl) (pe_op op_mod (pe_op op_mul (pe_op op_add (pe_op op_add (pe_op op_mod (pv 2) pe_int) (pe_op op_mul (pe_op op_mul (pe_ix ix_list (pv 1) pe_int (fun _ _ => rfl)) (pe_ix ix_list (pv 1) pe_int (fun _ _ => rfl))) pe_int)) pe_int) pe_int) pe_int))
      (pss_one (ps_ret (pe_op op_mod (pe_op op_mul (pv 3) (pv 3)) pe_int))))))), ?_⟩
    -- _law_at[0] = _law_at[0] + 1
    refine ⟨_, rfl, t, _, _, _, rfl, rfl, SqL.of ht, rfl, _, _, rfl, rfl, _, rfl, t, _, _, 0, rfl, rfl, ht, rfl, ?_⟩
    -- _law_cell = 0; if len(..) > 0
    have hq : SqL K (upd H t (.lst [.int (k + 1)])) s (ns.map V.int) := hS2 _
    refine ⟨_, rfl, _, _, rfl, .inl ⟨_, hq, rfl⟩, _, _, rfl, rfl, _, rfl, ?_⟩
    have fin : ∀ c : Int, ∀ m1 : Int, m1 = (c % 2147483647 + (k + 1) * (k + 1) * 7919 + 11) * 48271 % 2147483647 → Q (.int (m1 * m1 % 1999999973)) (upd H t (.lst [.int (k + 1)])) := fun c m1 _ =>
      kk _ (Int.emod_nonneg _ (by decide)) (Int.emod_lt_of_pos _ (by decide))
    have rest : ∀ c : Int, Q (.int (((c % 2147483647 + (k + 1) * (k + 1) * 7919 + 11) * 48271 % 2147483647) * ((c % 2147483647 + (k + 1) * (k + 1) * 7919 + 11) * 48271 % 2147483647) % 1999999973)) (upd H t (.lst [.int (k + 1)])) := fun c => fin c _ rfl
    have hAt : SqL K (upd H t (.lst [.int (k + 1)])) t [.int (k + 1)] := SqL.of upd_same
    refine ite_dec (fun h0 => ?_) (fun h0 => ?_)
    · have hn : 0 < ns.length := by rw [List.length_map] at h0; omega
      have i1 := Int.emod_nonneg (k + 1) (show ((ns.length : Nat) : Int) ≠ 0 by omega)
      have i2 := Int.emod_lt_of_pos (k + 1) (show (0 : Int) < ((ns.length : Nat) : Int) by omega)
      obtain ⟨j, hj⟩ : ∃ j : Nat, (k + 1) % ((ns.length : Nat) : Int) = (j : Int) := ⟨_, (Int.toNat_of_nonneg i1).symm⟩
      have hjl : j < ns.length := by omega
      refine ⟨_, rfl, _, rfl, t, _, _, _, rfl, rfl, hAt, rfl, _, rfl, _, _, rfl, .inl ⟨_, hq, rfl⟩, _, _, rfl, rfl, (by show (0 : Int) < (((ns.map V.int).length : Nat) : Int); rw [List.length_map]; omega), ?_⟩
      refine ⟨s, _, _, .int ns[j], rfl, rfl, hq, ?_, ?_⟩
      · rw [List.length_map, hj]
        exact atI_nat (by rw [List.getElem?_map, List.getElem?_eq_getElem hjl]; rfl)
      · refine ⟨_, rfl, _, _, rfl, rfl, (by show (0 : Int) < _; decide), ?_⟩
        refine ⟨_, rfl, t, _, _, _, rfl, rfl, hAt, rfl, _, rfl, t, _, _, _, rfl, rfl, hAt, rfl, _, _, rfl, rfl, .inl ⟨by omega, by omega⟩, _, _, rfl, rfl, .inr ⟨by decide, by decide⟩, _, _, rfl, rfl, _, _, rfl, rfl, _, _, rfl, rfl, .inr ⟨by decide, by decide⟩, _, _, rfl, rfl, (by show (0 : Int) < _; decide), ?_⟩
        have m0 := Int.emod_nonneg ((ns[j] % 2147483647 + (k + 1) * (k + 1) * 7919 + 11) * 48271) (show (2147483647 : Int) ≠ 0 by decide)
        have m1 := Int.emod_lt_of_pos ((ns[j] % 2147483647 + (k + 1) * (k + 1) * 7919 + 11) * 48271) (show (0 : Int) < 2147483647 by decide)
        exact ⟨_, rfl, _, rfl, _, _, rfl, rfl, .inl ⟨by omega, by omega⟩, _, _, rfl, rfl, (by show (0 : Int) < _; decide), rest _⟩
    · refine ⟨_, rfl, _, _, rfl, rfl, (by show (0 : Int) < _; decide), ?_⟩
      refine ⟨_, rfl, t, _, _, _, rfl, rfl, hAt, rfl, _, rfl, t, _, _, _, rfl, rfl, hAt, rfl, _, _, rfl, rfl, .inl ⟨by omega, by omega⟩, _, _, rfl, rfl, .inr ⟨by decide, by decide⟩, _, _, rfl, rfl, _, _, rfl, rfl, _, _, rfl, rfl, .inr ⟨by decide, by decide⟩, _, _, rfl, rfl, (by show (0 : Int) < _; decide), ?_⟩
      have m0 := Int.emod_nonneg (((0 : Int) % 2147483647 + (k + 1) * (k + 1) * 7919 + 11) * 48271) (show (2147483647 : Int) ≠ 0 by decide)
      have m1 := Int.emod_lt_of_pos (((0 : Int) % 2147483647 + (k + 1) * (k + 1) * 7919 + 11) * 48271) (show (0 : Int) < 2147483647 by decide)
      exact ⟨_, rfl, _, rfl, _, _, rfl, rfl, .inl ⟨by omega, by omega⟩, _, _, rfl, rfl, (by show (0 : Int) < _; decide), rest _⟩
theorem ok_law_signs {f_law_signs f_law_next : Addr} {fd_law_signs fd_law_next : FuncData} {p : Pm} (T : Txt K mg p base) (D_law_signs : Dn K mg "_law_signs" s_law_signs ["_law_script", "_law_at", "_law_many"] f_law_signs fd_law_signs) (D_law_next : Dn K mg "_law_next" s_law_next ["_law_script", "_law_at"] f_law_next fd_law_next) (G_law_next : FnOk P w K mg base CX0 1 f_law_next fd_law_next ["_law_script", "_law_at"] (spNext K)) : FnOk P w K mg base CX0 2 f_law_signs fd_law_signs ["_law_script", "_law_at", "_law_many"] (spSigns K) := by
  refine D_law_signs.fn.ok sc_law_signs (fun vs H Q E h => ?_) (fun cdv A outer s H vs Q E hr h => ?_)
  · obtain ⟨s, t, ns, k, n, rfl, _⟩ := h
    rfl
  · obtain ⟨s, t, ns, k, n, rfl, hC, hk, hn1, hn2, kk⟩ := h
    refine ⟨_, (pss_cons (ps_set (i := 3) sc_law_signs.nd rfl (Or.inl rfl) pe_str)
      (pss_cons (ps_set (i := 3) sc_law_signs.nd rfl (Or.inl rfl) (pe_op op_add_str (pv 3) pe_str))
      (pss_cons (ps_set (i := 4) sc_law_signs.nd rfl (Or.inl rfl) (pe_call G_law_next (hr.mono (by decide)) rfl D_law_next.m D_law_next.fn.kp D_law_next.b .nil pass0 (pa_cons (pv 0) (pa_cons (pv 1) pa_nil))))
      (pss_cons (ps_set (i := 5) sc_law_signs.nd rfl (Or.inl rfl) pe_str)
      (pss_cons (ps_for PassesOwn.never rfl (pi_range1 rfl T.z_range (pa_cons (pv 2) pa_nil)) (pg_name (i := 6) sc_law_signs.nd rfl (Or.inl rfl)) (pss_one (ps_set (i := 5) sc_law_signs.nd rfl (Or.inl rfl) (pe_op op_add_str (pv 5) (pe_ix ix_str (pv 3) (pe_op op_mod (pe_op op_add (pv 4) (pe_op op_mul (pv 6) (pe_op op_add pe_int (pe_op op_mod (pe_op op_fdiv (pv 4) pe_int) pe_int)))) pe_int) (fun _ _ => rfl))))))
      (pss_cons (ps_set (i := 7) sc_law_signs.nd rfl (Or.inl rfl) pe_str)
      (pss_cons (ps_for PassesOwn.never rfl (pi_txt (pv 5)) (pg_name (i := 8) sc_law_signs.nd rfl (Or.inl rfl)) (pss_one (ps_if (pt_cmpR op_notIn_str (pv 8) (pv 7) (by with_unfolding_all rfl)) (pss_one (ps_set (i := 7) sc_law_signs.nd rfl (Or.inl rfl) (pe_op op_add_str (pv 7) (pv 8)))) pss_nil)))
      (pss_one (ps_ret (pv 7)))))))))), ?_⟩
    refine ⟨_, rfl, _, _, rfl, rfl, (by decide +kernel), ?_⟩
    refine ⟨_, rfl, _, rfl, s, t, ns, k, rfl, hC, hk, fun m hm hm2 => ?_⟩
    refine ⟨_, rfl, n, rfl, by omega, by omega, ?_⟩
    refine for_range (lo := 0) (n := n.toNat) (fun i σ H2 => H2 = upd H t (.lst [.int (k + 1)]) ∧ ∃ (S here : Str) (v6 : Option V), σ = [some (.ref s), some (.ref t), some (.int n), some (.str S), some (.int m), some (.str here), v6, none, none] ∧
      S.cps.size = 92 ∧ S.cps.all isSignN = true ∧ here.cps.size = i ∧ ∀ c ∈ here.cps.toList, isSignN c = true) ⟨rfl, _, _, _, rfl, (by kernel_rfl), (by kernel_rfl), (by kernel_rfl), fun c hc => (by cases hc)⟩ ?_ ?_
    · rintro i σ H2 hi ⟨rfl, S, here, v6, rfl, hS1, hS2, hh1, hh2⟩
      have i1 := Int.emod_nonneg (m + (0 + (i : Int)) * (1 + m / 92 % 91)) (show (92 : Int) ≠ 0 by decide)
      have i2 := Int.emod_lt_of_pos (m + (0 + (i : Int)) * (1 + m / 92 % 91)) (show (0 : Int) < 92 by decide)
      obtain ⟨j, hj⟩ : ∃ j : Nat, (m + (0 + (i : Int)) * (1 + m / 92 % 91)) % 92 = (j : Int) := ⟨_, (Int.toNat_of_nonneg i1).symm⟩
      have hjl : j < S.cps.toList.length := by rw [Array.length_toList]; omega
      refine ⟨_, rfl, _, rfl, _, rfl, _, rfl, _, rfl, _, _, rfl, rfl, ⟨by decide, by decide⟩, _, _, rfl, rfl, (by show (0 : Int) < _; decide), _, _, rfl, rfl, _, _, rfl, rfl, .inl ⟨by omega, by omega⟩, _, _, rfl, rfl, _, _, rfl, rfl, (by show (0 : Int) < _; decide), ?_⟩
      refine ⟨S, _, S.cps.toList[j], rfl, rfl, (by show S.cps.size ≤ _; rw [hS1]; decide), (by rw [hj]; exact atI_nat (List.getElem?_eq_getElem hjl)), ?_⟩
      refine ⟨_, _, rfl, rfl, (by show here.cps.size + 1 ≤ sizeLine; rw [hh1]; exact Nat.le_trans (show i + 1 ≤ 100 by omega) (by decide)), ?_⟩
      refine ⟨rfl, S, _, _, rfl, hS1, hS2, ?_, ?_⟩
      · show (here.cps ++ #[S.cps.toList[j]]).size = i + 1
        rw [Array.size_append, hh1]
        rfl
      · intro c hc
        have hc' : c ∈ here.cps.toList ++ [S.cps.toList[j]] := by
          have e : (here.cps ++ #[S.cps.toList[j]]).toList = here.cps.toList ++ [S.cps.toList[j]] := by simp
          rw [← e]; exact hc
        rcases List.mem_append.mp hc' with hc | hc
        · exact hh2 c hc
        · rw [List.mem_singleton.mp hc]
          have := Array.all_eq_true_iff_forall_mem.mp hS2 _ (Array.mem_toList_iff.mp (List.getElem_mem hjl))
          exact this
    · rintro σ H2 ⟨rfl, S, here, v6, rfl, hS1, hS2, hh1, hh2⟩
      refine ⟨_, rfl, here, rfl, for_txt (x := here) (fun i σ H2 => H2 = upd H t (.lst [.int (k + 1)]) ∧ ∃ (made : Str) (v8 : Option V), σ = [some (.ref s), some (.ref t), some (.int n), some (.str S), some (.int m), some (.str here), v6, some (.str made), v8] ∧
        made.cps.size ≤ i ∧ (0 < i → 0 < made.cps.size) ∧ (∀ c ∈ made.cps.toList, isSignN c = true) ∧ made.cps.toList.Nodup) ⟨rfl, _, _, rfl, Nat.le_of_eq (by kernel_rfl), fun z => absurd z (by decide), fun c hc => (by cases hc), List.nodup_nil⟩ ?_ ?_⟩
      · rintro i c σ H2 hc ⟨rfl, made, v8, rfl, m1, m2, m3, m4⟩
        have hi : i < here.cps.size := by
          rw [← Array.getElem?_toList] at hc
          have := (List.getElem?_eq_some_iff.mp hc).1
          simpa using this
        have hcs : isSignN c = true := hh2 c (by rw [← Array.getElem?_toList] at hc; exact List.mem_of_getElem? hc)
        refine ⟨_, rfl, _, rfl, _, _, rfl, rfl, _, rfl, ?_⟩
        rw [StrLaws.found_one]
        by_cases hm' : c ∈ made.cps.toList
        · rw [decide_eq_true hm']
          refine iteNT ⟨rfl, made, _, rfl, by omega, fun _ => ?_, m3, m4⟩
          have := List.length_pos_of_mem hm'
          simpa using this
        · rw [decide_eq_false hm']
          refine iteNF ⟨_, rfl, _, rfl, _, _, rfl, rfl, (by show made.cps.size + 1 ≤ sizeLine; exact Nat.le_trans (show made.cps.size + 1 ≤ 100 by omega) (by decide)), ?_⟩
          have e : (made.cps ++ #[c]).toList = made.cps.toList ++ [c] := by simp
          refine ⟨rfl, _, _, rfl, ?_, fun _ => ?_, fun d hd => ?_, ?_⟩
          · show (made.cps ++ #[c]).size ≤ i + 1
            rw [Array.size_append]
            show made.cps.size + 1 ≤ _
            omega
          · show 0 < (made.cps ++ #[c]).size
            rw [Array.size_append]
            show 0 < made.cps.size + 1
            omega
          · have hd' : d ∈ made.cps.toList ++ [c] := by rw [← e]; exact hd
            rcases List.mem_append.mp hd' with hd | hd
            · exact m3 d hd
            · rw [List.mem_singleton.mp hd]; exact hcs
          · show (made.cps ++ #[c]).toList.Nodup
            rw [e]
            refine List.nodup_append.mpr ⟨m4, (by simp), fun x hx y hy z => ?_⟩
            rw [List.mem_singleton.mp hy] at z
            exact hm' (z ▸ hx)
      · rintro σ H2 ⟨rfl, made, v8, rfl, m1, m2, m3, m4⟩
        exact ⟨_, rfl, kk made ⟨m2 (by omega), by omega, m3, m4⟩ (by omega)⟩
theorem ok_NoSign___init__ {f_NoSign___init__ : Addr} {fd_NoSign___init__ : FuncData} {p : Pm} (T : Txt K mg p base) (D_NoSign___init__ : Dm K "__init__" "NoSign.__init__" s_NoSign___init__ ["self", "row", "place"] f_NoSign___init__ fd_NoSign___init__)  : FnOk P w K mg base (CXs P w) 1 f_NoSign___init__ fd_NoSign___init__ ["self", "row", "place"] (spNoSign p.C_NoSign) := by
  refine D_NoSign___init__.fn.okX sc_NoSign___init__ (fun vs H Q E h => ?_) (fun cdv A outer s H vs Q E hr h => ?_)
  · obtain ⟨e, i, j, rfl, _⟩ := h
    rfl
  · obtain ⟨e, i, j, rfl, he, hi, hj, k⟩ := h
    obtain ⟨fI, xc⟩ := T.xk_NoSign
    refine ⟨_, (pss_cons (ps_expr (pe_base T.xw_WeaveError rfl T.mg_WeaveError (pa_cons (pv 0) (pa_cons (pe_join (pj_cons pe_str (pj_cons (pe_fmt (pv 1)) (pj_cons pe_str (pj_cons (pe_fmt (pv 2)) pj_nil))))) pa_nil))))
      (pss_cons (ps_fldX (pv 0) (pv 1) rfl)
      (pss_one (ps_fldX (pv 0) (pv 2) rfl)))), ?_⟩
    have li := log_small hi
    have lj := log_small hj
    have ti := PyProof.Rows.int_text_len_1921 li
    have tj := PyProof.Rows.int_text_len_1921 lj
    have l0 : (Str.empty ++ Str.ofString "no sign that may stand there: row ").length ≤ 50 := by decide
    have l1 := fit_app l0 ti
    have l2 := fit_app l1 (show (Str.ofString ", place ").length ≤ 20 by decide)
    have l3 := fit_app l2 tj
    refine ⟨_, rfl, _, rfl, Nat.le_trans l0 (by decide), _, rfl, _, rfl, li, _, rfl, Nat.le_trans l1 (by decide), _, rfl, Nat.le_trans l2 (by decide), _, rfl, _, rfl, lj, _, rfl, Nat.le_trans l3 (by decide), Nat.le_trans l3 (by decide), ?_⟩
    refine ⟨e, p.C_NoSign, fI, none, _, rfl, he, xc, ?_⟩
    refine ⟨_, rfl, _, rfl, e, p.C_NoSign, rfl, T.xs_NoSign, T.n_NoSign_row, .inl ⟨he, fun dx hdx => ?_⟩⟩
    have ne : dx ≠ e := fun z => by rw [z, he] at hdx; cases hdx
    refine ⟨_, rfl, _, rfl, e, p.C_NoSign, rfl, T.xs_NoSign, T.n_NoSign_place, .inr ⟨dx, _, by rw [upd_ne (Ne.symm ne), upd_same], upd_same, pl1, ?_⟩⟩
    refine k dx _ (fun b u hb hbe => ?_) hdx (by rw [upd_ne (Ne.symm ne), upd_ne (Ne.symm ne), upd_same]) upd_same
    have nb : b ≠ dx := fun z => by rw [z, hdx] at hb; cases hb
    rw [upd_ne nb, upd_ne nb, upd_ne hbe, upd_ne nb]
    exact hb
theorem ok_check_signs_alone {f_check_signs_alone f_is_sign : Addr} {fd_check_signs_alone fd_is_sign : FuncData} {p : Pm} (T : Txt K mg p base) (D_check_signs_alone : Dn K mg "check_signs_alone" s_check_signs_alone ["row"] f_check_signs_alone fd_check_signs_alone) (D_is_sign : Dn K mg "is_sign" s_is_sign ["sign"] f_is_sign fd_is_sign) (G_is_sign : FnOk P w K mg base CX0 1 f_is_sign fd_is_sign ["sign"] spIsSign) : FnOk P w K mg base CX0 2 f_check_signs_alone fd_check_signs_alone ["row"] spAloneS := by
  refine D_check_signs_alone.fn.ok sc_check_signs_alone (fun vs H Q E h => ?_) (fun cdv A outer s H vs Q E hr h => ?_)
  · obtain ⟨r, rfl, _⟩ := h
    rfl
  · obtain ⟨r, rfl, hr1, hs, k⟩ := h
    refine ⟨_, (pss_one (ps_for PassesOwn.never rfl (pi_enum rfl T.z_enumerate (pa_cons (pv 0) pa_nil)) (pg_tup (n := 2) rfl (pgs_cons (pg_name (i := 1) sc_check_signs_alone.nd rfl (Or.inl rfl)) (pgs_cons (pg_name (i := 2) sc_check_signs_alone.nd rfl (Or.inl rfl)) pgs_nil))) (pss_one (ps_if (pt_not (pt_val (pe_call G_is_sign (hr.mono (by decide)) rfl D_is_sign.m D_is_sign.fn.kp D_is_sign.b .nil pass0 (pa_cons (pv 2) pa_nil)))) pss_never pss_nil)))), ?_⟩
    refine ⟨_, rfl, .txt r, _, rfl, rfl, for_enum (K := K) (c := .txt r) (xs := signsV r) (fun j σ H3 => ∃ v1 v2, σ = [some (.str r), v1, v2] ∧ Same H H3) ⟨_, _, rfl, Same.refl _⟩ (fun j σ H3 _ _ => rfl) ?_ ?_⟩
    · rintro j y p2 σ H3 hy hp2 ⟨v1, v2, rfl, s3⟩
      obtain ⟨c, hc, rfl⟩ := signs_get hy
      refine ⟨p2, _, rfl, SqT.of upd_same, rfl, _, _, rfl, _, _, rfl, rfl, ?_⟩
      refine ⟨_, rfl, c, rfl, _, rfl, ?_⟩
      rw [hs c (cps_mem hc)]
      exact iteNT ⟨_, _, rfl, s3.trans (Same.upd hp2)⟩
    · rintro σ H3 ⟨v1, v2, rfl, s3⟩
      exact k H3 s3
theorem ok_check_signs_alone_X {f_check_signs_alone f_is_sign f_NoSign___init__ : Addr} {fd_check_signs_alone fd_is_sign fd_NoSign___init__ : FuncData} {p : Pm} (T : Txt K mg p base) (D_check_signs_alone : Dn K mg "check_signs_alone" s_check_signs_alone ["row"] f_check_signs_alone fd_check_signs_alone) (D_is_sign : Dn K mg "is_sign" s_is_sign ["sign"] f_is_sign fd_is_sign) (G_is_sign : FnOk P w K mg base CX0 1 f_is_sign fd_is_sign ["sign"] spIsSign) (D_NoSign___init__ : Dm K "__init__" "NoSign.__init__" s_NoSign___init__ ["self", "row", "place"] f_NoSign___init__ fd_NoSign___init__) (M_NoSign : XMk K p.C_NoSign f_NoSign___init__) (G_NoSign___init__ : FnOk P w K mg base (CXs P w) 1 f_NoSign___init__ fd_NoSign___init__ ["self", "row", "place"] (spNoSign p.C_NoSign)) : FnOk P w K mg base (CXs P w) 3 f_check_signs_alone fd_check_signs_alone ["row"] (spAloneX p.C_NoSign) := by
  refine D_check_signs_alone.fn.okX sc_check_signs_alone (fun vs H Q E h => ?_) (fun cdv A outer s H vs Q E hr h => ?_)
  · obtain ⟨r, j, rfl, _⟩ := h
    rfl
  · obtain ⟨r, j0, rfl, hr1, ⟨⟨c0, hc0, hb0⟩, hg⟩, k⟩ := h
    refine ⟨_, (pss_one (ps_for passesOwn_fn rfl (pi_enum rfl T.z_enumerate (pa_cons (pv 0) pa_nil)) (pg_tup (n := 2) rfl (pgs_cons (pg_name (i := 1) sc_check_signs_alone.nd rfl (Or.inl rfl)) (pgs_cons (pg_name (i := 2) sc_check_signs_alone.nd rfl (Or.inl rfl)) pgs_nil))) (pss_one (ps_if (pt_not (pt_val (pe_call G_is_sign (hr.mono (by decide)) rfl D_is_sign.m D_is_sign.fn.kp D_is_sign.b .nil pass0 (pa_cons (pv 2) pa_nil)))) (pss_one (ps_raiseI lets_fn M_NoSign G_NoSign___init__ (hr.mono (by decide)) D_NoSign___init__.b rfl rfl T.mg_NoSign (pa_cons pe_int (pa_cons (pv 1) pa_nil)))) pss_nil)))), ?_⟩
    refine ⟨_, rfl, .txt r, _, rfl, rfl, for_enum (K := K) (c := .txt r) (xs := signsV r) (fun j σ H3 => ∃ v1 v2, σ = [some (.str r), v1, v2] ∧ Same H H3 ∧ j ≤ j0) ⟨_, _, rfl, Same.refl _, Nat.zero_le _⟩ (fun j σ H3 _ _ => rfl) ?_ ?_⟩
    · rintro j y p2 σ H3 hy hp2 ⟨v1, v2, rfl, s3, hj⟩
      obtain ⟨c, hc, rfl⟩ := signs_get hy
      have s4 := s3.trans (Same.upd (o := .tup [.int (j : Int), .str ⟨#[c]⟩]) hp2)
      refine ⟨p2, _, rfl, SqT.of upd_same, rfl, _, _, rfl, _, _, rfl, rfl, ?_⟩
      refine ⟨_, rfl, c, rfl, _, rfl, ?_⟩
      by_cases z : j = j0
      · subst z
        rw [hc0] at hc
        cases hc
        rw [hb0]
        have hlt := cps_lt hc0
        refine iteNF ⟨_, rfl, by show 2 ≤ sizeLine; decide, fun e hn => ?_⟩
        have hne : H e = none := Same.free s4 hn
        refine ⟨e, 0, j, rfl, upd_same, by omega, by omega, fun dx H' hk hdx hx hd => ⟨rfl, some dx, hx, k dx _ (fun b u hb => ?_) ?_⟩⟩
        · have nb : b ≠ e := fun z => by rw [z, hne] at hb; cases hb
          rw [del_ne nb]
          exact hk b u (by rw [upd_ne nb]; exact s4 b u hb) nb
        · have ne : dx ≠ e := fun z => by rw [z, upd_same] at hdx; cases hdx
          rw [del_ne ne]
          exact hd
      · rw [hg j c (by omega) hc]
        exact iteNT ⟨_, _, rfl, s4, by omega⟩
    · rintro σ H3 ⟨v1, v2, rfl, s3, hj⟩
      have hlt := cps_lt hc0
      rw [signs_length] at hj
      omega
theorem ok_law_same_A {f_law_same : Addr} {fd_law_same : FuncData} {p : Pm} (T : Txt K mg p base) (D_law_same : Dn K mg "_law_same" s_law_same ["_law_found", "_law_due"] f_law_same fd_law_same)  : FnOk P w K mg base CX0 1 f_law_same fd_law_same ["_law_found", "_law_due"] spSameA := by
  refine D_law_same.fn.ok sc_law_same (fun vs H Q E h => ?_) (fun cdv A outer s H vs Q E hr h => ?_)
  · obtain ⟨v, rfl, _⟩ := h
    rfl
  · obtain ⟨v, rfl, ha, k⟩ := h
    refine ⟨_, (pss_cons (ps_if (pt_val (pe_callB (call_isinst) rfl T.z_isinstance bo_isinstance (pa_cons (pv 1) (pa_cons (pe_bltn (v := .ty "dict") rfl T.z_dict bo_dict rfl) pa_nil)))) pss_never pss_nil)
      (pss_cons (ps_if (PW.pt (pw_or (pt_val (pe_callB (call_isinst) rfl T.z_isinstance bo_isinstance (pa_cons (pv 1) (pa_cons (pe_bltn (v := .ty "list") rfl T.z_list bo_list rfl) pa_nil)))) (pw_or1 (pt_val (pe_callB (call_isinst) rfl T.z_isinstance bo_isinstance (pa_cons (pv 1) (pa_cons (pe_bltn (v := .ty "tuple") rfl T.z_tuple bo_tuple rfl) pa_nil))))))) pss_never pss_nil)
      (pss_cons (ps_if (pt_val (pe_callB (call_isinst) rfl T.z_isinstance bo_isinstance (pa_cons (pv 1) (pa_cons (pe_bltn (v := .ty "str") rfl T.z_str bo_str rfl) pa_nil)))) (pss_one (ps_ret (pe_and (pe_callB (call_isinst) rfl T.z_isinstance bo_isinstance (pa_cons (pv 0) (pa_cons (pe_bltn (v := .ty "str") rfl T.z_str bo_str rfl) pa_nil))) (pe_one (pe_cmpR op_eq (pv 0) (pv 1) (nomark _)))))) pss_nil)
      (pss_one (ps_ret (pe_and (pe_callB (call_isinst) rfl T.z_isinstance bo_isinstance (pa_cons (pv 0) (pa_cons (pe_bltn (v := .ty "int") rfl T.z_int bo_int rfl) pa_nil))) (pe_and (pe_not (pe_callB (call_isinst) rfl T.z_isinstance bo_isinstance (pa_cons (pv 0) (pa_cons (pe_bltn (v := .ty "bool") rfl T.z_bool bo_bool rfl) pa_nil)))) (pe_one (pe_cmpR op_eq (pv 0) (pv 1) (nomark _)))))))))), ?_⟩
    cases v with
    | int b =>
      refine ⟨_, rfl, _, _, _, _, rfl, .int b, kit_int_dict, _, rfl, ?_⟩
      refine iteF ?_
      refine ⟨_, rfl, _, _, _, _, rfl, .int b, kit_int_list, _, rfl, ?_⟩
      refine iteF ?_
      refine ⟨_, rfl, _, _, _, _, rfl, .int b, kit_int_tuple, _, rfl, ?_⟩
      refine iteF ?_
      refine ⟨_, rfl, _, _, _, _, rfl, .int b, kit_int_str, _, rfl, ?_⟩
      refine iteF ?_
      refine ⟨_, rfl, _, _, _, _, rfl, .int b, kit_same, _, rfl, ?_⟩
      refine iteT ?_
      refine ⟨_, rfl, _, _, _, _, rfl, .int b, kit_int_bool, _, rfl, _, rfl, ?_⟩
      refine iteNF ?_
      refine ⟨_, rfl, _, rfl, rfl, ?_⟩
      rw [decide_eq_true rfl]
      exact k
    | str x =>
      refine ⟨_, rfl, _, _, _, _, rfl, .str x, kit_str_dict, _, rfl, ?_⟩
      refine iteF ?_
      refine ⟨_, rfl, _, _, _, _, rfl, .str x, kit_str_list, _, rfl, ?_⟩
      refine iteF ?_
      refine ⟨_, rfl, _, _, _, _, rfl, .str x, kit_str_tuple, _, rfl, ?_⟩
      refine iteF ?_
      refine ⟨_, rfl, _, _, _, _, rfl, .str x, kit_same, _, rfl, ?_⟩
      refine iteT ?_
      refine ⟨_, rfl, _, _, _, _, rfl, .str x, kit_same, _, rfl, ?_⟩
      refine iteT ?_
      refine ⟨_, rfl, _, rfl, rfl, ?_⟩
      rw [decide_eq_true rfl]
      exact k
    | _ => cases ha
theorem ok_law_same_B {f_law_same : Addr} {fd_law_same : FuncData} {p : Pm} (T : Txt K mg p base) (D_law_same : Dn K mg "_law_same" s_law_same ["_law_found", "_law_due"] f_law_same fd_law_same) (G_law_same : FnOk P w K mg base CX0 1 f_law_same fd_law_same ["_law_found", "_law_due"] spSameA) : FnOk P w K mg base CX0 2 f_law_same fd_law_same ["_law_found", "_law_due"] spSameB := by
  refine D_law_same.fn.ok sc_law_same (fun vs H Q E h => ?_) (fun cdv A outer s H vs Q E hr h => ?_)
  · obtain ⟨v, w', rfl, _⟩ := h
    rfl
  · obtain ⟨v, w', rfl, hsb, k⟩ := h
    refine ⟨_, (pss_cons (ps_if (pt_val (pe_callB (call_isinst) rfl T.z_isinstance bo_isinstance (pa_cons (pv 1) (pa_cons (pe_bltn (v := .ty "dict") rfl T.z_dict bo_dict rfl) pa_nil)))) pss_never pss_nil)
      (pss_cons (ps_if (PW.pt (pw_or (pt_val (pe_callB (call_isinst) rfl T.z_isinstance bo_isinstance (pa_cons (pv 1) (pa_cons (pe_bltn (v := .ty "list") rfl T.z_list bo_list rfl) pa_nil)))) (pw_or1 (pt_val (pe_callB (call_isinst) rfl T.z_isinstance bo_isinstance (pa_cons (pv 1) (pa_cons (pe_bltn (v := .ty "tuple") rfl T.z_tuple bo_tuple rfl) pa_nil))))))) (pss_cons (ps_if (PW.pt (pw_and (pt_val (pe_callB (call_isinst) rfl T.z_isinstance bo_isinstance (pa_cons (pv 1) (pa_cons (pe_bltn (v := .ty "list") rfl T.z_list bo_list rfl) pa_nil)))) (pw_and1 (pt_not (pt_val (pe_callB (call_isinst) rfl T.z_isinstance bo_isinstance (pa_cons (pv 0) (pa_cons (pe_bltn (v := .ty "list") rfl T.z_list bo_list rfl) pa_nil)))))))) (pss_one (ps_ret pe_bl)) pss_nil)
      (pss_cons (ps_if (PW.pt (pw_or (PW.pt (pw_and (pt_val (pe_callB (call_isinst) rfl T.z_isinstance bo_isinstance (pa_cons (pv 1) (pa_cons (pe_bltn (v := .ty "tuple") rfl T.z_tuple bo_tuple rfl) pa_nil)))) (pw_and1 (pt_not (pt_val (pe_callB (call_isinst) rfl T.z_isinstance bo_isinstance (pa_cons (pv 0) (pa_cons (pe_bltn (v := .ty "tuple") rfl T.z_tuple bo_tuple rfl) pa_nil)))))))) (pw_or1 (pt_cmpR op_ne (pe_callB (call_len) rfl T.z_len bo_len (pa_cons (pv 0) pa_nil)) (pe_callB (call_len) rfl T.z_len bo_len (pa_cons (pv 1) pa_nil)) (nomark _))))) (pss_one (ps_ret pe_bl)) pss_nil)
      (pss_one (ps_ret (pe_callB (call_all_bl rfl) rfl T.z_all bo_all (pa_cons (pe_comp (N := ["_law_one", "_law_other"]) rfl (fun _ => ⟨[], CompSc.plain (by decide +kernel) rfl (by decide +kernel) (by decide +kernel)⟩) (pi_zip rfl rfl T.z_zip (pa_cons (pv 0) (pa_cons (pv 1) pa_nil))) (fun _ _ _ _ _ _ _ => (pg_tupK (K' := K) (n := 2) rfl rfl (pgs_cons (pg_name (i := 0) (show (["_law_one", "_law_other"] : List Str).Nodup by decide +kernel) rfl (Or.inl rfl)) (pgs_cons (pg_name (i := 1) (show (["_law_one", "_law_other"] : List Str).Nodup by decide +kernel) rfl (Or.inl rfl)) pgs_nil)))) (fun _ _ _ _ _ _ _ => (pe_call G_law_same (hr.mono (by decide)) rfl D_law_same.m D_law_same.fn.kp D_law_same.b .nil pass0 (pa_cons (pv 0) (pa_cons (pv 1) pa_nil))))) pa_nil)))))) pss_nil)
      (pss_cons (ps_if (pt_val (pe_callB (call_isinst) rfl T.z_isinstance bo_isinstance (pa_cons (pv 1) (pa_cons (pe_bltn (v := .ty "str") rfl T.z_str bo_str rfl) pa_nil)))) (pss_one (ps_ret (pe_and (pe_callB (call_isinst) rfl T.z_isinstance bo_isinstance (pa_cons (pv 0) (pa_cons (pe_bltn (v := .ty "str") rfl T.z_str bo_str rfl) pa_nil))) (pe_one (pe_cmpR op_eq (pv 0) (pv 1) (nomark _)))))) pss_nil)
      (pss_one (ps_ret (pe_and (pe_callB (call_isinst) rfl T.z_isinstance bo_isinstance (pa_cons (pv 0) (pa_cons (pe_bltn (v := .ty "int") rfl T.z_int bo_int rfl) pa_nil))) (pe_and (pe_not (pe_callB (call_isinst) rfl T.z_isinstance bo_isinstance (pa_cons (pv 0) (pa_cons (pe_bltn (v := .ty "bool") rfl T.z_bool bo_bool rfl) pa_nil)))) (pe_one (pe_cmpR op_eq (pv 0) (pv 1) (nomark _)))))))))), ?_⟩
    rcases hsb with ⟨rfl, ha⟩ | ⟨p, q, ys, rfl, rfl, hat, hlen, hb⟩
    · skip
      cases v with
      | int b =>
        refine ⟨_, rfl, _, _, _, _, rfl, .int b, kit_int_dict, _, rfl, ?_⟩
        refine iteF ?_
        refine ⟨_, rfl, _, _, _, _, rfl, .int b, kit_int_list, _, rfl, ?_⟩
        refine iteF ?_
        refine ⟨_, rfl, _, _, _, _, rfl, .int b, kit_int_tuple, _, rfl, ?_⟩
        refine iteF ?_
        refine ⟨_, rfl, _, _, _, _, rfl, .int b, kit_int_str, _, rfl, ?_⟩
        refine iteF ?_
        refine ⟨_, rfl, _, _, _, _, rfl, .int b, kit_same, _, rfl, ?_⟩
        refine iteT ?_
        refine ⟨_, rfl, _, _, _, _, rfl, .int b, kit_int_bool, _, rfl, _, rfl, ?_⟩
        refine iteNF ?_
        refine ⟨_, rfl, _, rfl, rfl, ?_⟩
        rw [decide_eq_true rfl]
        exact k H (Same.refl H)
      | str x =>
        refine ⟨_, rfl, _, _, _, _, rfl, .str x, kit_str_dict, _, rfl, ?_⟩
        refine iteF ?_
        refine ⟨_, rfl, _, _, _, _, rfl, .str x, kit_str_list, _, rfl, ?_⟩
        refine iteF ?_
        refine ⟨_, rfl, _, _, _, _, rfl, .str x, kit_str_tuple, _, rfl, ?_⟩
        refine iteF ?_
        refine ⟨_, rfl, _, _, _, _, rfl, .str x, kit_same, _, rfl, ?_⟩
        refine iteT ?_
        refine ⟨_, rfl, _, _, _, _, rfl, .str x, kit_same, _, rfl, ?_⟩
        refine iteT ?_
        refine ⟨_, rfl, _, rfl, rfl, ?_⟩
        rw [decide_eq_true rfl]
        exact k H (Same.refl H)
      | _ => cases ha
    have hxy : ys.length = ys.length := rfl
    rcases hb with ⟨hp, hq⟩ | ⟨hp, hq⟩
    · have hSp : SqT K H p ys := SqT.of hp
      have hSq : SqT K H q ys := SqT.of hq
      refine ⟨_, rfl, _, _, _, _, rfl, .tup hq, kit_tuple_dict, _, rfl, iteF ?_⟩
      refine ⟨_, rfl, _, _, _, _, rfl, .tup hq, kit_tuple_list, _, rfl, iteF ?_⟩
      refine ⟨_, rfl, _, _, _, _, rfl, .tup hq, kit_same, _, rfl, iteT ?_⟩
      refine ⟨_, rfl, _, _, _, _, rfl, .tup hq, kit_tuple_list, _, rfl, iteF ?_⟩
      refine ⟨_, rfl, _, _, _, _, rfl, .tup hq, kit_same, _, rfl, iteT ?_⟩
      refine ⟨_, rfl, _, _, _, _, rfl, .tup hp, kit_same, _, rfl, iteNT ?_⟩
      refine ⟨_, rfl, _, _, rfl, .inr ⟨_, hSp, rfl⟩, _, rfl, _, _, rfl, .inr ⟨_, hSq, rfl⟩, rfl, _, rfl, ?_⟩
      refine ite_ne (fun z => absurd (by rw [hxy]) z) fun _ => ?_
      refine ⟨_, rfl, _, rfl, .tup p, .tup q, _, _, rfl, hSp, hSq, fun l hl => ?_⟩
      refine ⟨fun i m bs H2 => m = ys.length - i ∧ i ≤ ys.length ∧ bs = List.replicate i (V.bl true) ∧ H2 l = some (.lst bs) ∧ Same H H2, ⟨_, rfl, Nat.zero_le _, rfl, upd_same, Same.upd hl⟩, ?_⟩
      rintro i m bs H2 ⟨rfl, hi, rfl, hl2, s2⟩
      have zp : SqT K H2 p ys := SqT.of (s2 _ _ hp)
      have zq : SqT K H2 q ys := SqT.of (s2 _ _ hq)
      by_cases h2 : i < ys.length
      · have hn := List.getElem?_eq_getElem h2
        refine .inr ⟨⟨_, _, _, _, zp, zq, hn, hn⟩, ?_⟩
        rintro x H3 ⟨p', x', y', rfl, hp', rfl, hxy⟩
        obtain ⟨ex, ey⟩ := hxy _ _ zp zq
        rw [hn] at ex ey
        cases ex
        cases ey
        refine ⟨p', _, rfl, SqT.of upd_same, rfl, _, _, rfl, _, _, rfl, rfl, Kp.rep _ _, ?_⟩
        refine ⟨_, rfl, _, rfl, _, rfl, hat _ (List.getElem_mem h2), ?_⟩
        refine ⟨by rw [upd_ne (ne_of_none hl2 hp')]; exact hl2, by rw [List.length_replicate]; exact Nat.lt_of_lt_of_le h2 (Nat.le_trans hlen (by decide)), _, ?_, rfl, h2, by rw [List.replicate_succ'], upd_same, Same.at (s2.trans (Same.upd hp')) hl⟩
        omega
      · have ei : i = ys.length := by omega
        subst ei
        refine .inl ⟨⟨_, _, zp, zq, .inl (Nat.le_refl _)⟩, ?_⟩
        refine ⟨l, List.replicate ys.length true, rfl, by rw [List.map_replicate]; exact SqL.of hl2, ?_⟩
        have e : (List.replicate ys.length true).all id = true := List.all_eq_true.mpr fun b hb => (List.mem_replicate.mp hb).2
        rw [e]
        exact k H2 s2
    · have hSp : SqL K H p ys := SqL.of hp
      have hSq : SqL K H q ys := SqL.of hq
      refine ⟨_, rfl, _, _, _, _, rfl, .lst hq, kit_list_dict, _, rfl, iteF ?_⟩
      refine ⟨_, rfl, _, _, _, _, rfl, .lst hq, kit_same, _, rfl, iteT ?_⟩
      refine ⟨_, rfl, _, _, _, _, rfl, .lst hq, kit_same, _, rfl, iteT ?_⟩
      refine ⟨_, rfl, _, _, _, _, rfl, .lst hp, kit_same, _, rfl, iteNT ?_⟩
      refine ⟨_, rfl, _, _, _, _, rfl, .lst hq, kit_list_tuple, _, rfl, iteF ?_⟩
      refine ⟨_, rfl, _, _, rfl, .inl ⟨_, hSp, rfl⟩, _, rfl, _, _, rfl, .inl ⟨_, hSq, rfl⟩, rfl, _, rfl, ?_⟩
      refine ite_ne (fun z => absurd (by rw [hxy]) z) fun _ => ?_
      refine ⟨_, rfl, _, rfl, .lst p, .lst q, _, _, rfl, hSp, hSq, fun l hl => ?_⟩
      refine ⟨fun i m bs H2 => m = ys.length - i ∧ i ≤ ys.length ∧ bs = List.replicate i (V.bl true) ∧ H2 l = some (.lst bs) ∧ Same H H2, ⟨_, rfl, Nat.zero_le _, rfl, upd_same, Same.upd hl⟩, ?_⟩
      rintro i m bs H2 ⟨rfl, hi, rfl, hl2, s2⟩
      have zp : SqL K H2 p ys := SqL.of (s2 _ _ hp)
      have zq : SqL K H2 q ys := SqL.of (s2 _ _ hq)
      by_cases h2 : i < ys.length
      · have hn := List.getElem?_eq_getElem h2
        refine .inr ⟨⟨_, _, _, _, zp, zq, hn, hn⟩, ?_⟩
        rintro x H3 ⟨p', x', y', rfl, hp', rfl, hxy⟩
        obtain ⟨ex, ey⟩ := hxy _ _ zp zq
        rw [hn] at ex ey
        cases ex
        cases ey
        refine ⟨p', _, rfl, SqT.of upd_same, rfl, _, _, rfl, _, _, rfl, rfl, Kp.rep _ _, ?_⟩
        refine ⟨_, rfl, _, rfl, _, rfl, hat _ (List.getElem_mem h2), ?_⟩
        refine ⟨by rw [upd_ne (ne_of_none hl2 hp')]; exact hl2, by rw [List.length_replicate]; exact Nat.lt_of_lt_of_le h2 (Nat.le_trans hlen (by decide)), _, ?_, rfl, h2, by rw [List.replicate_succ'], upd_same, Same.at (s2.trans (Same.upd hp')) hl⟩
        omega
      · have ei : i = ys.length := by omega
        subst ei
        refine .inl ⟨⟨_, _, zp, zq, .inl (Nat.le_refl _)⟩, ?_⟩
        refine ⟨l, List.replicate ys.length true, rfl, by rw [List.map_replicate]; exact SqL.of hl2, ?_⟩
        have e : (List.replicate ys.length true).all id = true := List.all_eq_true.mpr fun b hb => (List.mem_replicate.mp hb).2
        rw [e]
        exact k H2 s2
theorem ok_law_drawn_row {f_law_drawn_row f_law_next f_law_signs : Addr} {fd_law_drawn_row fd_law_next fd_law_signs : FuncData} {p : Pm} (T : Txt K mg p base) (D_law_drawn_row : Dn K mg "_law_drawn_row" s_law_drawn_row ["_law_script", "_law_at", "_law_most"] f_law_drawn_row fd_law_drawn_row) (D_law_next : Dn K mg "_law_next" s_law_next ["_law_script", "_law_at"] f_law_next fd_law_next) (G_law_next : FnOk P w K mg base CX0 1 f_law_next fd_law_next ["_law_script", "_law_at"] (spNext K)) (D_law_signs : Dn K mg "_law_signs" s_law_signs ["_law_script", "_law_at", "_law_many"] f_law_signs fd_law_signs) (G_law_signs : FnOk P w K mg base CX0 2 f_law_signs fd_law_signs ["_law_script", "_law_at", "_law_many"] (spSigns K)) : FnOk P w K mg base CX0 3 f_law_drawn_row fd_law_drawn_row ["_law_script", "_law_at", "_law_most"] (spDrawnR K) := by
  refine D_law_drawn_row.fn.ok sc_law_drawn_row (fun vs H Q E h => ?_) (fun cdv A outer s H vs Q E hr h => ?_)
  · obtain ⟨s, t, ns, k, rfl, _⟩ := h
    rfl
  · obtain ⟨s, t, ns, k, rfl, hC, hk, kk⟩ := h
    have k0 := hC.k0
    refine ⟨_, (pss_cons (ps_set (i := 3) sc_law_drawn_row.nd rfl (Or.inl rfl) (pe_call G_law_next (hr.mono (by decide)) rfl D_law_next.m D_law_next.fn.kp D_law_next.b .nil pass0 (pa_cons (pv 0) (pa_cons (pv 1) pa_nil))))
      (pss_cons (ps_set (i := 4) sc_law_drawn_row.nd rfl (Or.inl rfl) (pe_call G_law_signs (hr.mono (by decide)) rfl D_law_signs.m D_law_signs.fn.kp D_law_signs.b .nil pass0 (pa_cons (pv 0) (pa_cons (pv 1) (pa_cons (pe_op op_add pe_int (pe_op op_mod (pv 3) pe_int)) pa_nil)))))
      (pss_cons (ps_set (i := 5) sc_law_drawn_row.nd rfl (Or.inl rfl) pe_str)
      (pss_cons (ps_for PassesOwn.never rfl (pi_enum rfl T.z_enumerate (pa_cons (pe_slice sl_list (pv 0) po_none (po_some (pv 2))) pa_nil)) (pg_tup (n := 2) rfl (pgs_cons (pg_name (i := 6) sc_law_drawn_row.nd rfl (Or.inl rfl)) (pgs_cons (pg_name (i := 7) sc_law_drawn_row.nd rfl (Or.inl rfl)) pgs_nil))) (pss_cons (ps_set (i := 8) sc_law_drawn_row.nd rfl (Or.inl rfl) (pe_op op_mod (pe_op op_add (pe_op op_mul (pe_op op_mod (pv 7) pe_int) pe_int) (pe_op op_mul (pe_op op_mul (pv 6) (pv 6)) (pe_op op_mod (pe_op op_fdiv (pv 3) pe_int) pe_int))) pe_int))
      (pss_one (ps_set (i := 5) sc_law_drawn_row.nd rfl (Or.inl rfl) (pe_op op_add_str (pv 5) (pe_ix ix_str (pv 4) (pe_op op_mod (pv 8) (pe_callB (call_len) rfl T.z_len bo_len (pa_cons (pv 4) pa_nil))) (fun _ _ => rfl)))))))
      (pss_mid (ps_if (pt_cmpR op_eq (pe_op op_mod (pe_op op_fdiv (pv 3) pe_int) pe_int) pe_int (nomark _)) (pss_cons (ps_set (i := 9) sc_law_drawn_row.nd rfl (Or.inl rfl) (pe_slice sl_str (pv 5) po_none (po_some (pe_op op_add pe_int (pe_op op_mod (pe_op op_fdiv (pv 3) pe_int) pe_int)))))
      (pss_one (ps_set (i := 5) sc_law_drawn_row.nd rfl (Or.inl rfl) (pe_slice sl_str (pe_op op_repS (pv 9) (pv 2)) po_none (po_some (pe_callB (call_len) rfl T.z_len bo_len (pa_cons (pv 5) pa_nil))))))) pss_nil)
      (pss_mid (ps_if (pt_cmpR op_eq (pe_op op_mod (pe_op op_fdiv (pv 3) pe_int) pe_int) pe_int (nomark _)) (pss_cons (ps_set (i := 10) sc_law_drawn_row.nd rfl (Or.inl rfl) (pe_slice sl_str (pv 5) po_none (po_some (pe_op op_fdiv (pe_callB (call_len) rfl T.z_len bo_len (pa_cons (pv 5) pa_nil)) pe_int))))
      (pss_one (ps_set (i := 5) sc_law_drawn_row.nd rfl (Or.inl rfl) (pe_op op_add_str (pe_op op_add_str (pv 10) (pe_slice sl_str (pv 5) (po_some (pe_callB (call_len) rfl T.z_len bo_len (pa_cons (pv 10) pa_nil))) (po_some (pe_op op_add (pe_callB (call_len) rfl T.z_len bo_len (pa_cons (pv 10) pa_nil)) pe_int)))) (pv 10))))) pss_nil)
      (pss_one (ps_ret (pe_slice sl_str (pv 5) po_none (po_some (pv 2))))))))))), ?_⟩
    refine ⟨_, rfl, _, rfl, s, t, ns, k, rfl, hC, by omega, fun m hm hm2 => ?_⟩
    have C1 : Ctr K (upd H t (.lst [.int (k + 1)])) s t ns (k + 1) := hC.step (by omega)
    refine ⟨_, rfl, _, rfl, _, rfl, _, _, rfl, rfl, (by show (0 : Int) < _; decide), _, _, rfl, rfl, s, t, ns, k + 1, _, rfl, C1, by omega, by omega, by omega, fun sg hsg h12 => ?_⟩
    have C2 : Ctr K (upd (upd H t (.lst [.int (k + 1)])) t (.lst [.int (k + 1 + 1)])) s t ns (k + 1 + 1) := C1.step (by omega)
    have w2 : Same (Wo t H) (Wo t (upd (upd H t (.lst [.int (k + 1)])) t (.lst [.int (k + 1 + 1)]))) := by rw [Wo.set, Wo.set]; exact Same.refl _
    generalize upd (upd H t (.lst [.int (k + 1)])) t (.lst [.int (k + 1 + 1)]) = H2 at C2 w2 ⊢
    have hs1 : 0 < sg.cps.size := hsg.1
    have hz : sg.length ≤ sizeLine := Nat.le_trans hsg.2.1 (by decide)
    have hlen := C2.len
    refine ⟨_, rfl, _, rfl, _, rfl, s, _, rfl, C2.scr, fun l hl => ?_⟩
    refine ⟨.lst l, _, rfl, SqL.of upd_same, for_enum (K := K) (c := .lst l) (xs := cutV (ns.map V.int) none (some 44)) (fun j σ H3 => ∃ (x : Str) (v6 v7 v8 : Option V), σ = [some (.ref s), some (.ref t), some (.int 44), some (.int m), some (.str sg), some (.str x), v6, v7, v8, none, none] ∧ Of sg x ∧ x.cps.size ≤ j ∧ Same (upd H2 l (.lst (cutV (ns.map V.int) none (some 44)))) H3) ⟨_, _, _, _, rfl, fun c hc => (by cases hc), Nat.le_of_eq (by kernel_rfl), Same.refl _⟩ (fun j σ H3 _ ⟨_, _, _, _, _, _, _, s3⟩ => SqL.of (s3 _ _ upd_same)) ?_ ?_⟩
    · rintro j y p2 σ H3 hy hp2 ⟨x, v6, v7, v8, rfl, ox, hx, s3⟩
      obtain ⟨hj, n, rfl⟩ := cut_int hy
      have s4 := s3.trans (Same.upd (o := .tup [.int (j : Int), .int n]) hp2)
      refine ⟨p2, _, rfl, SqT.of upd_same, rfl, _, _, rfl, _, _, rfl, rfl, ?_⟩
      generalize upd H3 p2 (.tup [.int (j : Int), .int n]) = H4 at s4 ⊢
      refine ⟨_, rfl, _, _, rfl, rfl, (by show (0 : Int) < _; decide), _, _, rfl, rfl, .inr ⟨by decide, by decide⟩, _, rfl, _, rfl, _, _, rfl, rfl, .inl ⟨by omega, by omega⟩, _, rfl, _, _, rfl, rfl, ⟨by decide, by decide⟩, _, _, rfl, rfl, (by show (0 : Int) < _; decide), _, _, rfl, rfl, .inr ⟨by omega, by omega⟩, _, _, rfl, rfl, _, _, rfl, rfl, (by show (0 : Int) < _; decide), ?_⟩
      obtain ⟨sp, hsp⟩ : ∃ sp, sp = (n % 1000003 * 48271 + (j : Int) * (j : Int) * (m / 5 % 3)) % 1009 := ⟨_, rfl⟩
      have i1 := Int.emod_nonneg sp (show ((sg.cps.size : Nat) : Int) ≠ 0 by omega)
      have i2 := Int.emod_lt_of_pos sp (show (0 : Int) < ((sg.cps.size : Nat) : Int) by omega)
      obtain ⟨a, ha⟩ : ∃ a : Nat, sp % ((sg.cps.size : Nat) : Int) = (a : Int) := ⟨_, (Int.toNat_of_nonneg i1).symm⟩
      obtain ⟨c, hc⟩ := cps_at (x := sg) (i := a) (by omega)
      refine ⟨_, rfl, _, rfl, _, rfl, _, rfl, _, _, rfl, ⟨hz, rfl⟩, _, _, rfl, rfl, (by show (0 : Int) < ((sg.cps.size : Nat) : Int); omega), sg, _, c, rfl, rfl, hz, (by show atI sg.cps.toList ((n % 1000003 * 48271 + (j : Int) * (j : Int) * (m / 5 % 3)) % 1009 % ((sg.cps.size : Nat) : Int)) = some c; rw [← hsp, ha]; exact atI_nat (cps_list hc)), ?_⟩
      refine ⟨_, _, rfl, rfl, (by show x.cps.size + 1 ≤ sizeLine; exact Nat.le_trans (show x.cps.size + 1 ≤ 1000 by omega) (by decide)), ?_⟩
      refine ⟨_, _, _, _, rfl, fun d hd => ?_, by rw [str_snoc_size]; omega, s4⟩
      rw [str_snoc] at hd
      rcases List.mem_append.mp hd with hd | hd
      · exact ox d hd
      · rw [List.mem_singleton.mp hd]; exact cps_mem hc
    · rintro σ H3 ⟨x, v6, v7, v8, rfl, ox, hx, s3⟩
      have hx63 : x.cps.size ≤ 63 := by
        have := cutV_length (ns.map V.int) none (some 44)
        rw [List.length_map] at this
        omega
      clear hx
      have zx : x.length ≤ sizeLine := Nat.le_trans hx63 (by decide)
      -- said over and over
      refine ⟨fun σ' H' => H' = H3 ∧ ∃ (x : Str) (v9 : Option V), σ' = [some (.ref s), some (.ref t), some (.int 44), some (.int m), some (.str sg), some (.str x), v6, v7, v8, v9, none] ∧ Of sg x ∧ x.cps.size ≤ 63, ?_, ?_⟩
      · refine ⟨_, rfl, _, _, rfl, rfl, ⟨by decide, by decide⟩, _, _, rfl, rfl, (by show (0 : Int) < _; decide), rfl, _, rfl, ?_⟩
        refine ite_eq (fun _ => ?_) fun _ => ?_
        · refine ⟨_, rfl, _, rfl, _, _, rfl, rfl, ⟨by decide, by decide⟩, _, _, rfl, rfl, (by show (0 : Int) < _; decide), _, _, rfl, rfl, _, rfl, x, rfl, zx, ?_⟩
          have op : ∀ {lo hi : Option Int}, Of sg (Txt.slice x lo hi) := fun {lo hi} c hc => ox c (slice_mem hc)
          have lp : ∀ {lo hi : Option Int}, (Txt.slice x lo hi).cps.size ≤ 63 := fun {lo hi} => Nat.le_trans (Txt.slice_le x lo hi) hx63
          generalize hpt : Txt.slice x none (some (1 + m / 45 % 7)) = pt
          have op1 : Of sg pt := by rw [← hpt]; exact op
          have lp1 : pt.cps.size ≤ 63 := by rw [← hpt]; exact lp
          have lr : (repS pt 44).cps.size ≤ 2772 := by
            rw [repS_len]
            show 44 * pt.cps.size ≤ 2772
            omega
          refine ⟨_, rfl, _, rfl, pt, 44, rfl, rfl, by decide, by decide, by omega, Nat.le_trans (show 44 * pt.cps.size ≤ 2772 by omega) (by decide), _, rfl, _, _, rfl, ⟨zx, rfl⟩, _, rfl, repS pt 44, rfl, Nat.le_trans lr (by decide), ?_⟩
          refine ⟨rfl, _, _, rfl, fun c hc => ?_, ?_⟩
          · have h1 := slice_mem hc
            rw [repS_list] at h1
            obtain ⟨q, hq, hcq⟩ := List.mem_flatten.mp h1
            rw [(List.mem_replicate.mp hq).2] at hcq
            exact op1 c hcq
          · have e := slice_up (repS pt 44) x.cps.size
            rw [← Array.length_toList]
            show (Txt.slice (repS pt 44) none (some ((x.cps.size : Nat) : Int))).cps.toList.length ≤ 63
            rw [e, List.length_take]
            omega
        · exact ⟨rfl, x, _, rfl, ox, hx63⟩
      rintro σ' H' ⟨rfl, x, v9, rfl, ox, hx63⟩
      have zx : x.length ≤ sizeLine := Nat.le_trans hx63 (by decide)
      -- its half once more
      refine ⟨fun σ' H'' => H'' = H' ∧ ∃ (x : Str) (v10 : Option V), σ' = [some (.ref s), some (.ref t), some (.int 44), some (.int m), some (.str sg), some (.str x), v6, v7, v8, v9, v10] ∧ Of sg x ∧ x.cps.size ≤ 200, ?_, ?_⟩
      · refine ⟨_, rfl, _, _, rfl, rfl, ⟨by decide, by decide⟩, _, _, rfl, rfl, (by show (0 : Int) < _; decide), rfl, _, rfl, ?_⟩
        refine ite_eq (fun _ => ?_) fun _ => ?_
        · refine ⟨_, rfl, _, rfl, _, _, rfl, ⟨zx, rfl⟩, _, _, rfl, rfl, ⟨by decide, by decide⟩, _, rfl, x, rfl, zx, ?_⟩
          have op : ∀ {lo hi : Option Int}, Of sg (Txt.slice x lo hi) := fun {lo hi} c hc => ox c (slice_mem hc)
          have lp : ∀ {lo hi : Option Int}, (Txt.slice x lo hi).cps.size ≤ 63 := fun {lo hi} => Nat.le_trans (Txt.slice_le x lo hi) hx63
          generalize hpt : Txt.slice x none (some (((x.length : Nat) : Int) / 2)) = pt
          have op1 : Of sg pt := by rw [← hpt]; exact op
          have lp1 : pt.cps.size ≤ 63 := by rw [← hpt]; exact lp
          have zp : pt.length ≤ sizeLine := Nat.le_trans lp1 (by decide)
          refine ⟨_, rfl, _, rfl, _, rfl, _, _, rfl, ⟨zp, rfl⟩, _, rfl, _, rfl, _, _, rfl, ⟨zp, rfl⟩, _, _, rfl, rfl, _, rfl, x, rfl, zx, ?_⟩
          generalize hp2 : Txt.slice x (some ((pt.length : Nat) : Int)) (some (((pt.length : Nat) : Int) + 2)) = p2
          have op2 : Of sg p2 := by rw [← hp2]; exact op
          have lp2 : p2.cps.size ≤ 63 := by rw [← hp2]; exact lp
          have l2 : (pt ++ p2).cps.size ≤ 126 := by rw [strAppSize]; omega
          refine ⟨_, _, rfl, rfl, Nat.le_trans (show pt.cps.size + p2.cps.size ≤ 1000 by omega) (by decide), _, rfl, _, _, rfl, rfl, Nat.le_trans (show (pt ++ p2).cps.size + pt.cps.size ≤ 1000 by omega) (by decide), ?_⟩
          refine ⟨rfl, _, _, rfl, fun c hc => ?_, by rw [strAppSize]; omega⟩
          rw [strApp, strApp] at hc
          rcases List.mem_append.mp hc with hc | hc
          · rcases List.mem_append.mp hc with hc | hc
            · exact op1 c hc
            · exact op2 c hc
          · exact op1 c hc
        · exact ⟨rfl, x, _, rfl, ox, by omega⟩
      rintro σ' H'' ⟨rfl, x, v10, rfl, ox, hx200⟩
      refine ⟨_, rfl, _, rfl, _, rfl, x, rfl, Nat.le_trans hx200 (by decide), ?_⟩
      have s23 := (Same.upd (o := .lst (cutV (ns.map V.int) none (some 44))) hl).trans s3
      refine kk _ _ (fun c hc => hsg.2.2.1 c (ox c (slice_mem hc))) ?_ (w2.trans (Wo.same s23)) ?_
      · have e := slice_up x 44
        rw [← Array.length_toList]
        show (Txt.slice x none (some ((44 : Nat) : Int))).cps.toList.length ≤ 44
        rw [e, List.length_take]
        omega
      · rw [s23 _ _ C2.at_, Int.add_assoc]
        rfl
end
section
variable {P : Program} {w : World} {K : PySem.W.Frag} {mg : Str → Option Value} {base : Heap}
theorem ok_lengths_ahead {f_lengths_ahead : Addr} {fd_lengths_ahead : FuncData} {p : Pm} (T : Txt K mg p base) (D_lengths_ahead : Dn K mg "lengths_ahead" s_lengths_ahead ["row", "i", "behind"] f_lengths_ahead fd_lengths_ahead)  : FnOk P w K mg base CX0 1 f_lengths_ahead fd_lengths_ahead ["row", "i", "behind"] spLens := by
  refine D_lengths_ahead.fn.ok sc_lengths_ahead (fun vs H Q E h => ?_) (fun cdv A outer s H vs Q E hr h => ?_)
  · obtain ⟨r, i, b, rfl, _⟩ := h
    rfl
  · obtain ⟨r, i, b, rfl, hr1, hi, hb, k⟩ := h
    have hz : r.length ≤ sizeLine := Nat.le_trans hr1 (by decide)
    have hL : r.cps.toList.length = r.cps.size := Array.length_toList
    refine ⟨_, (pss_cons (ps_set (i := 3) sc_lengths_ahead.nd rfl (Or.inl rfl) (pe_lst pa_nil))
      (pss_cons (ps_for PassesOwn.never rfl (pi_range1 rfl T.z_range (pa_cons (pe_callB (call_len) rfl T.z_len bo_len (pa_cons (pv 0) pa_nil)) pa_nil)) (pg_name (i := 4) sc_lengths_ahead.nd rfl (Or.inl rfl)) (pss_one (ps_expr (pe_bm PySem.F.plainAttrs_list PySem.F.slot_list_append PySem.F.type_list_append mt_append (pv 3) (pa_cons (pe_ifExp (pt_cmpR op_eq (pe_ix ix_str (pv 0) (pv 1) (fun _ _ => rfl)) (pe_ix ix_str (pv 0) (pv 4) (fun _ _ => rfl)) (nomark _)) (pe_op op_add (pe_ix ix_list (pv 2) (pe_op op_add (pv 4) pe_int) (fun _ _ => rfl)) pe_int) pe_int) pa_nil)))))
      (pss_cons (ps_expr (pe_bm PySem.F.plainAttrs_list PySem.F.slot_list_append PySem.F.type_list_append mt_append (pv 3) (pa_cons pe_int pa_nil)))
      (pss_one (ps_ret (pv 3)))))), ?_⟩
    refine ⟨by show 0 ≤ sizeLine; decide, fun l hl => ?_⟩
    obtain ⟨c, hc⟩ := cps_at (x := r) (i := i) hi
    have hcl := cps_list hc
    refine ⟨_, rfl, _, _, rfl, ⟨hz, rfl⟩, _, rfl, by show (-(2 ^ 62) : Int) ≤ ((r.cps.size : Nat) : Int); omega, by show ((r.cps.size : Nat) : Int) < 2 ^ 62; omega, ?_⟩
    refine for_range (lo := 0) (n := r.cps.size) (fun j σ H2 => ∃ v4 : Option V, σ = [some (.str r), some (.int (i : Int)), some (.ref b), some (.ref l), v4] ∧ Same H H2 ∧ H2 l = some (.lst (lensTo r.cps.toList i j))) ⟨_, rfl, Same.upd hl, upd_same⟩ ?_ ?_
    · rintro j σ H2 hj ⟨v4, rfl, s2, hl2⟩
      obtain ⟨d, hd⟩ := cps_at (x := r) (i := j) hj
      have hdl := cps_list hd
      have hb2 := s2 _ _ hb
      have st := ln_step hcl hdl
      refine ⟨_, rfl, .inl ⟨rfl, _, SqL.of hl2⟩, _, rfl, _, rfl, r, _, c, rfl, rfl, hz, atI_nat hcl, _, rfl, _, rfl, r, _, d, rfl, rfl, hz, (by rw [Int.zero_add]; exact atI_nat hdl), rfl, ?_⟩
      have fin : ∀ m : Int, m = (ln r.cps.toList i j : Int) → ∃ l' xs y, V.ref l = .ref l' ∧ [V.int m] = [y] ∧ H2 l' = some (.lst xs) ∧ xs.length < sizeLine ∧ ∃ v4 : Option V, [some (V.str r), some (.int (i : Int)), some (.ref b), some (.ref l), some (.int (0 + (j : Int)))] = [some (.str r), some (.int (i : Int)), some (.ref b), some (.ref l), v4] ∧ Same H (upd H2 l' (.lst (xs ++ [y]))) ∧ upd H2 l' (.lst (xs ++ [y])) l = some (.lst (lensTo r.cps.toList i (j + 1))) := fun m hm => by
        refine ⟨l, _, _, rfl, rfl, hl2, by rw [lensTo_len]; exact Nat.lt_of_lt_of_le (show j < 100 by omega) (by decide), _, rfl, Same.at s2 hl, ?_⟩
        rw [upd_same, lensTo_succ, hm]
      by_cases z : c = d
      · subst z
        rw [decide_eq_true (rfl : V.str ⟨#[c]⟩ = V.str ⟨#[c]⟩)]
        refine ⟨_, rfl, iteT ?_⟩
        rw [if_pos rfl] at st
        have ea : atI (lens r.cps.toList (i + 1)) (0 + (j : Int) + 1) = some (.int (ln r.cps.toList (i + 1) (j + 1) : Int)) := by
          rw [show (0 + (j : Int) + 1) = ((j + 1 : Nat) : Int) by omega]
          exact atI_nat (lens_at (by omega))
        refine ⟨_, rfl, _, rfl, _, _, rfl, rfl, b, _, _, _, rfl, rfl, SqL.of hb2, ea, _, _, rfl, rfl, fin _ (by rw [st]; omega)⟩
      · rw [decide_eq_false (fun e => z (by injection e with e1; injection e1 with e2; simpa using e2))]
        refine ⟨_, rfl, iteF ?_⟩
        rw [if_neg z] at st
        exact fin _ (by rw [st]; rfl)
    · rintro σ H2 ⟨v4, rfl, s2, hl2⟩
      refine ⟨_, rfl, .inl ⟨rfl, _, SqL.of hl2⟩, l, _, _, rfl, rfl, hl2, by rw [lensTo_len]; exact Nat.lt_of_lt_of_le (show r.cps.size < 101 by omega) (by decide), ?_⟩
      refine ⟨_, rfl, k l _ (Same.at s2 hl) hl ?_⟩
      rw [upd_same, ← hL, lensTo_all]
theorem ok_goes_on_ahead {f_goes_on_ahead : Addr} {fd_goes_on_ahead : FuncData} {p : Pm} (T : Txt K mg p base) (D_goes_on_ahead : Dn K mg "goes_on_ahead" s_goes_on_ahead ["row", "i", "j"] f_goes_on_ahead fd_goes_on_ahead)  : FnOk P w K mg base CX0 1 f_goes_on_ahead fd_goes_on_ahead ["row", "i", "j"] spGoes := by
  refine D_goes_on_ahead.fn.ok sc_goes_on_ahead (fun vs H Q E h => ?_) (fun cdv A outer s H vs Q E hr h => ?_)
  · obtain ⟨r, i, j, rfl, _⟩ := h
    rfl
  · obtain ⟨r, i, j, rfl, hr1, hij, hj, k⟩ := h
    have hz : r.length ≤ sizeLine := Nat.le_trans hr1 (by decide)
    refine ⟨_, (pss_one (ps_ret (pe_and (pe_cmpR op_gt (pv 1) pe_int (nomark _)) (pe_one (pe_cmpR op_eq (pe_ix ix_str (pv 0) (pe_op op_sub (pv 1) pe_int) (fun _ _ => rfl)) (pe_ix ix_str (pv 0) (pe_op op_sub (pv 2) pe_int) (fun _ _ => rfl)) (nomark _)))))), ?_⟩
    refine ⟨_, rfl, _, _, rfl, rfl, _, rfl, ?_⟩
    refine ite_dec (fun h1 => ?_) fun h1 => ?_
    · have h1' : 0 < i := by have h2 : (0 : Int) < (i : Int) := h1; omega
      obtain ⟨c, hc⟩ := cps_at (x := r) (i := i - 1) (by omega)
      obtain ⟨d, hd⟩ := cps_at (x := r) (i := j - 1) (by omega)
      refine ⟨_, rfl, _, rfl, _, _, rfl, rfl, r, _, c, rfl, rfl, hz, (by rw [show (i : Int) - 1 = ((i - 1 : Nat) : Int) by omega]; exact atI_nat (cps_list hc)), _, rfl, _, rfl, _, _, rfl, rfl, r, _, d, rfl, rfl, hz, (by rw [show (j : Int) - 1 = ((j - 1 : Nat) : Int) by omega]; exact atI_nat (cps_list hd)), rfl, k _ ?_⟩
      rw [decide_eq_true_iff]
      refine ⟨fun e => ⟨h1', d, ?_, cps_list hd⟩, fun ⟨_, e, e1, e2⟩ => ?_⟩
      · have : c = d := by injection e with e1; injection e1 with e2; simpa using e2
        rw [← this]
        exact cps_list hc
      · rw [cps_list hc] at e1
        rw [cps_list hd] at e2
        rw [Option.some.inj e1, Option.some.inj e2]
    · have h1' : ¬ 0 < i := by have h2 : ¬ (0 : Int) < (i : Int) := h1; omega
      exact k _ ⟨fun z => (by cases z), fun z => absurd z.1 h1'⟩
theorem ok_full_twins {f_full_twins f_lengths_ahead f_goes_on_ahead : Addr} {fd_full_twins fd_lengths_ahead fd_goes_on_ahead : FuncData} {p : Pm} (T : Txt K mg p base) (D_full_twins : Dn K mg "full_twins" s_full_twins ["row"] f_full_twins fd_full_twins) (D_lengths_ahead : Dn K mg "lengths_ahead" s_lengths_ahead ["row", "i", "behind"] f_lengths_ahead fd_lengths_ahead) (G_lengths_ahead : FnOk P w K mg base CX0 1 f_lengths_ahead fd_lengths_ahead ["row", "i", "behind"] spLens) (D_goes_on_ahead : Dn K mg "goes_on_ahead" s_goes_on_ahead ["row", "i", "j"] f_goes_on_ahead fd_goes_on_ahead) (G_goes_on_ahead : FnOk P w K mg base CX0 1 f_goes_on_ahead fd_goes_on_ahead ["row", "i", "j"] spGoes) : FnOk P w K mg base CX0 2 f_full_twins fd_full_twins ["row"] spFull := by
  refine D_full_twins.fn.ok sc_full_twins (fun vs H Q E h => ?_) (fun cdv A outer s H vs Q E hr h => ?_)
  · obtain ⟨r, rfl, _⟩ := h
    rfl
  · obtain ⟨r, rfl, hr1, k⟩ := h
    have hz : r.length ≤ sizeLine := Nat.le_trans hr1 (by decide)
    have hL : r.cps.toList.length = r.cps.size := Array.length_toList
    obtain ⟨n, hn⟩ : ∃ n, n = r.cps.size := ⟨_, rfl⟩
    refine ⟨_, (pss_cons (ps_set (i := 1) sc_full_twins.nd rfl (Or.inl rfl) (pe_lst pa_nil))
      (pss_cons (ps_set (i := 2) sc_full_twins.nd rfl (Or.inl rfl) (pe_op op_rep (pe_lst (pa_cons pe_int pa_nil)) (pe_op op_add (pe_callB (call_len) rfl T.z_len bo_len (pa_cons (pv 0) pa_nil)) pe_int)))
      (pss_cons (ps_for PassesOwn.never rfl (pi_range3 rfl T.z_range (pa_cons (pe_op op_sub (pe_callB (call_len) rfl T.z_len bo_len (pa_cons (pv 0) pa_nil)) pe_int) (pa_cons (pe_un un_neg pe_int) (pa_cons (pe_un un_neg pe_int) pa_nil)))) (pg_name (i := 3) sc_full_twins.nd rfl (Or.inl rfl)) (pss_cons (ps_set (i := 2) sc_full_twins.nd rfl (Or.inl rfl) (pe_call G_lengths_ahead (hr.mono (by decide)) rfl D_lengths_ahead.m D_lengths_ahead.fn.kp D_lengths_ahead.b .nil pass0 (pa_cons (pv 0) (pa_cons (pv 3) (pa_cons (pv 2) pa_nil)))))
      (pss_one (ps_for PassesOwn.never rfl (pi_range3 rfl T.z_range (pa_cons (pe_op op_sub (pe_callB (call_len) rfl T.z_len bo_len (pa_cons (pv 0) pa_nil)) pe_int) (pa_cons (pv 3) (pa_cons (pe_un un_neg pe_int) pa_nil)))) (pg_name (i := 4) sc_full_twins.nd rfl (Or.inl rfl)) (pss_one (ps_if (PW.pt (pw_and (pt_cmpR op_gt (pe_ix ix_list (pv 2) (pv 4) (fun _ _ => rfl)) pe_int (nomark _)) (pw_and1 (pt_not (pt_val (pe_call G_goes_on_ahead (hr.mono (by decide)) rfl D_goes_on_ahead.m D_goes_on_ahead.fn.kp D_goes_on_ahead.b .nil pass0 (pa_cons (pv 0) (pa_cons (pv 3) (pa_cons (pv 4) pa_nil))))))))) (pss_one (ps_expr (pe_bm PySem.F.plainAttrs_list PySem.F.slot_list_append PySem.F.type_list_append mt_append (pv 1) (pa_cons (pe_tup (pa_cons (pv 3) (pa_cons (pv 4) (pa_cons (pe_ix ix_list (pv 2) (pv 4) (fun _ _ => rfl)) pa_nil)))) pa_nil)))) pss_nil))))))
      (pss_cons (ps_expr (pe_bm0 PySem.F.plainAttrs_list PySem.F.slot_list_reverse PySem.F.type_list_reverse mt_reverse (pv 1)))
      (pss_one (ps_ret (pv 1))))))), ?_⟩
    refine ⟨by show 0 ≤ sizeLine; decide, fun f hf => ?_⟩
    refine ⟨by show 1 ≤ sizeLine; decide, fun l0 hl0 => ?_⟩
    have s0 : Same H (upd H f (.lst [])) := Same.upd hf
    have hf0 : upd H f (.lst []) f = some (.lst []) := upd_same
    generalize upd H f (.lst []) = H0 at s0 hf0 hl0 ⊢
    have s1 : Same H0 (upd H0 l0 (.lst [.int 0])) := Same.upd hl0
    refine ⟨_, rfl, _, _, rfl, ⟨hz, rfl⟩, _, _, rfl, rfl, l0, _, _, rfl, rfl, upd_same, by show (-(2 ^ 63) : Int) ≤ ((r.cps.size : Nat) : Int) + 1; omega, by show ((r.cps.size : Nat) : Int) + 1 < 2 ^ 63; omega, ?_, fun lb hlb => ?_⟩
    · show 1 * (((r.cps.size : Nat) : Int) + 1).toNat ≤ sizeLine
      exact Nat.le_trans (show _ ≤ 100 by omega) (by decide)
    have e0 : (List.replicate (((r.length : Nat) : Int) + 1).toNat [V.int 0]).flatten = lens r.cps.toList r.cps.size := by
      have e1 : (((r.length : Nat) : Int) + 1).toNat = r.cps.size + 1 := by show (((r.cps.size : Nat) : Int) + 1).toNat = _; omega
      rw [e1, ← hL, lens_nil]
      generalize r.cps.toList.length + 1 = q
      induction q with
      | zero => rfl
      | succ q ih => rw [List.replicate_succ, List.flatten_cons, ih, List.replicate_succ]; rfl
    rw [e0]
    generalize upd H0 l0 (.lst [.int 0]) = H1 at s1 hlb ⊢
    have s2 : Same H1 (upd H1 lb (.lst (lens r.cps.toList r.cps.size))) := Same.upd hlb
    have hb2 : upd H1 lb (.lst (lens r.cps.toList r.cps.size)) lb = some (.lst (lens r.cps.toList r.cps.size)) := upd_same
    have hf2 := s2 _ _ (s1 _ _ hf0)
    generalize upd H1 lb (.lst (lens r.cps.toList r.cps.size)) = H2 at s2 hb2 hf2 ⊢
    have s02 : Same H H2 := (s0.trans s1).trans s2
    refine ⟨_, rfl, _, _, rfl, ⟨hz, rfl⟩, _, _, rfl, rfl, _, rfl, _, rfl, ((r.cps.size : Nat) : Int) - 1, -1, rfl, ⟨by omega, by omega, by omega, by omega⟩, ?_⟩
    rw [show (((r.cps.size : Nat) : Int) - 1 - -1).toNat = r.cps.size by omega]
    refine for_down (fun it σ H3 => ∃ (lb : Addr) (vs : List V) (xs : List TS.T3) (v3 v4 : Option V), σ = [some (.str r), some (.ref f), some (.ref lb), v3, v4] ∧ Same H H3 ∧ H3 f = some (.lst vs) ∧ H3 lb = some (.lst (lens r.cps.toList (r.cps.size - it))) ∧ Paired (Tw H3) vs xs ∧ vs.length ≤ it * 100 ∧
      xs.Pairwise (fun x y => TS.ltT y x = true) ∧ ∀ x, x ∈ xs ↔ FT r.cps.toList x ∧ ((r.cps.size : Nat) : Int) - (it : Int) ≤ x.1) ⟨lb, [], [], _, _, rfl, s02, hf2, hb2, .nil, Nat.zero_le _, List.Pairwise.nil, fun x => ⟨fun z => (by cases z), fun ⟨a, b⟩ => by have := a.bd; omega⟩⟩ ?_ ?_
    · rintro it σ H3 hit ⟨lb, vs, xs, v3, v4, rfl, s3, hf3, hb3, hP, hlen, hpw, hmem⟩
      obtain ⟨i, hi⟩ : ∃ i : Nat, i = r.cps.size - 1 - it := ⟨_, rfl⟩
      have ei : ((r.cps.size : Nat) : Int) - 1 - (it : Int) = (i : Int) := by omega
      rw [ei]
      rw [show r.cps.size - it = i + 1 by omega] at hb3
      refine ⟨_, rfl, _, rfl, _, rfl, r, i, lb, rfl, by omega, by omega, hb3, fun ln1 H4 s4 hn4 hl4 => ?_⟩
      have hf4 := s4 _ _ hf3
      have hP4 := Paired.mapP hP fun v t z => Tw.same z s4
      have nf : f ≠ ln1 := fun z => by rw [← z, hf3] at hn4; cases hn4
      refine ⟨_, rfl, _, _, rfl, ⟨hz, rfl⟩, _, _, rfl, rfl, _, rfl, _, rfl, ((r.cps.size : Nat) : Int) - 1, (i : Int), rfl, ⟨by omega, by omega, by omega, by omega⟩, ?_⟩
      rw [show (((r.cps.size : Nat) : Int) - 1 - (i : Int)).toNat = it by omega]
      have hnl : H ln1 = none := Same.free s3 hn4
      refine for_down (fun jt σ H5 => ∃ (vs : List V) (xs : List TS.T3) (v4 : Option V), σ = [some (.str r), some (.ref f), some (.ref ln1), some (.int (i : Int)), v4] ∧ Same H H5 ∧ H5 f = some (.lst vs) ∧ H5 ln1 = some (.lst (lens r.cps.toList i)) ∧ Paired (Tw H5) vs xs ∧ vs.length ≤ it * 100 + jt ∧
        xs.Pairwise (fun x y => TS.ltT y x = true) ∧ ∀ x, x ∈ xs ↔ FT r.cps.toList x ∧ ((i : Int) < x.1 ∨ (x.1 = (i : Int) ∧ ((r.cps.size : Nat) : Int) - (jt : Int) ≤ x.2.1))) ⟨vs, xs, _, rfl, s3.trans s4, hf4, hl4, hP4, hlen, hpw, fun x => (hmem x).trans ⟨fun ⟨a, b⟩ => ⟨a, by omega⟩, fun ⟨a, b⟩ => ⟨a, by have := a.bd; omega⟩⟩⟩ ?_ ?_
      · rintro jt σ H5 hjt ⟨vs, xs, v4, rfl, s5, hf5, hl5, hP5, hlen5, hpw5, hmem5⟩
        obtain ⟨j, hj⟩ : ∃ j : Nat, j = r.cps.size - 1 - jt := ⟨_, rfl⟩
        have ej : ((r.cps.size : Nat) : Int) - 1 - (jt : Int) = (j : Int) := by omega
        rw [ej]
        have hat : atI (lens r.cps.toList i) (j : Int) = some (.int (ln r.cps.toList i j : Int)) := atI_nat (lens_at (by omega))
        have skip : ¬ FT r.cps.toList (n3 i j (ln r.cps.toList i j)) → ∃ (vs : List V) (xs : List TS.T3) (v4 : Option V), [some (V.str r), some (.ref f), some (.ref ln1), some (.int (i : Int)), some (.int (j : Int))] = [some (.str r), some (.ref f), some (.ref ln1), some (.int (i : Int)), v4] ∧ Same H H5 ∧ H5 f = some (.lst vs) ∧ H5 ln1 = some (.lst (lens r.cps.toList i)) ∧ Paired (Tw H5) vs xs ∧ vs.length ≤ it * 100 + (jt + 1) ∧
            xs.Pairwise (fun x y => TS.ltT y x = true) ∧ ∀ x, x ∈ xs ↔ FT r.cps.toList x ∧ ((i : Int) < x.1 ∨ (x.1 = (i : Int) ∧ ((r.cps.size : Nat) : Int) - ((jt + 1 : Nat) : Int) ≤ x.2.1)) := fun hno =>
          ⟨vs, xs, _, rfl, s5, hf5, hl5, hP5, by omega, hpw5, fun x => (hmem5 x).trans ⟨fun ⟨a, b⟩ => ⟨a, by omega⟩, fun ⟨a, b⟩ => ⟨a, by
            rcases b with b | ⟨b1, b2⟩
            · exact .inl b
            · by_cases z : x.2.1 = (j : Int)
              · have := (ft_own a b1 z).1
                rw [this] at a
                exact absurd a hno
              · exact .inr ⟨b1, by omega⟩⟩⟩⟩
        refine ⟨_, rfl, _, rfl, ln1, _, _, _, rfl, rfl, SqL.of hl5, hat, _, _, rfl, rfl, _, rfl, ?_⟩
        refine ite_dec (fun h1 => ?_) fun h1 => ?_
        · have h1' : 0 < ln r.cps.toList i j := by have h2 : (0 : Int) < (ln r.cps.toList i j : Int) := h1; omega
          refine ⟨_, rfl, _, rfl, _, rfl, r, i, j, rfl, by omega, by omega, by omega, fun bb hbb => ⟨_, rfl, ?_⟩⟩
          cases bb with
          | true =>
            refine iteNT ?_
            refine skip fun z => ?_
            exact (ft_own z rfl rfl).2.2 (hbb.mp rfl)
          | false =>
            refine iteNF ?_
            have hno : ¬ (0 < i ∧ Eq2 r.cps.toList (i - 1) (j - 1)) := fun z => by have := hbb.mpr z; cases this
            have ft := ft_of (show i < j by omega) h1' hno
            refine ⟨_, rfl, .inl ⟨rfl, _, SqL.of hf5⟩, _, rfl, _, rfl, _, rfl, _, rfl, ln1, _, _, _, rfl, rfl, SqL.of hl5, hat, by show 3 ≤ sizeLine; decide, fun q hq => ?_⟩
            have s6 : Same H5 (upd H5 q (tu3 (n3 i j (ln r.cps.toList i j)))) := Same.upd hq
            have hq6 : upd H5 q (tu3 (n3 i j (ln r.cps.toList i j))) q = some (tu3 (n3 i j (ln r.cps.toList i j))) := upd_same
            have hf6 := s6 _ _ hf5
            have hl6 := s6 _ _ hl5
            refine ⟨f, _, _, rfl, rfl, hf6, Nat.lt_of_le_of_lt (show vs.length ≤ 10000 by omega) (by decide), ?_⟩
            refine ⟨vs ++ [.ref q], xs ++ [n3 i j (ln r.cps.toList i j)], _, rfl, Same.at (s5.trans s6) hf, upd_same, ?_, ?_, ?_, ?_, fun x => ?_⟩
            · rw [upd_ne (Ne.symm nf)]
              exact hl6
            · exact GP.Paired.snoc (Paired.mapP hP5 fun v t z => GP.Tw.off (GP.Tw.same z s6) hf6) (GP.Tw.off ⟨q, rfl, hq6⟩ hf6)
            · rw [List.length_append, List.length_singleton]
              omega
            · refine List.pairwise_append.mpr ⟨hpw5, List.pairwise_singleton _ _, fun x hx y hy => ?_⟩
              rw [List.mem_singleton.mp hy]
              obtain ⟨a, b⟩ := (hmem5 x).mp hx
              exact lt_first (by omega)
            · refine ⟨fun hx => ?_, fun ⟨a, b⟩ => ?_⟩
              · rcases List.mem_append.mp hx with hx | hx
                · obtain ⟨a, b⟩ := (hmem5 x).mp hx
                  exact ⟨a, by omega⟩
                · rw [List.mem_singleton.mp hx]
                  exact ⟨ft, .inr ⟨rfl, by show ((r.cps.size : Nat) : Int) - ((jt + 1 : Nat) : Int) ≤ (j : Int); omega⟩⟩
              · by_cases z : x.1 = (i : Int) ∧ x.2.1 = (j : Int)
                · rw [(ft_own a z.1 z.2).1]
                  exact List.mem_append_right _ (List.mem_singleton.mpr rfl)
                · exact List.mem_append_left _ ((hmem5 x).mpr ⟨a, by omega⟩)
        · have h1' : ¬ 0 < ln r.cps.toList i j := by have h2 : ¬ (0 : Int) < (ln r.cps.toList i j : Int) := h1; omega
          exact skip fun z => h1' (ft_own z rfl rfl).2.1
      · rintro σ H5 ⟨vs, xs, v4, rfl, s5, hf5, hl5, hP5, hlen5, hpw5, hmem5⟩
        refine ⟨ln1, vs, xs, _, _, rfl, s5, hf5, by rw [show r.cps.size - (it + 1) = i by omega]; exact hl5, hP5, by omega, hpw5, fun x => (hmem5 x).trans ⟨fun ⟨a, b⟩ => ⟨a, by omega⟩, fun ⟨a, b⟩ => ⟨a, by have := a.bd; omega⟩⟩⟩
    · rintro σ H3 ⟨lb, vs, xs, v3, v4, rfl, s3, hf3, hb3, hP, hlen, hpw, hmem⟩
      refine ⟨_, rfl, .inl ⟨rfl, _, SqL.of hf3⟩, f, vs, rfl, rfl, hf3, ?_⟩
      refine ⟨_, rfl, k f _ vs.reverse xs.reverse (Same.at s3 hf) hf upd_same (paired_rev (Paired.mapP hP fun v t z => Tw.off z hf3)) ⟨List.pairwise_reverse.mpr hpw, fun x => ?_⟩ (by rw [List.length_reverse]; omega)⟩
      rw [List.mem_reverse, hmem x]
      exact ⟨fun z => z.1, fun z => ⟨z, by have := z.bd; omega⟩⟩
theorem ok_law_runs {f_law_runs : Addr} {fd_law_runs : FuncData} {p : Pm} (T : Txt K mg p base) (D_law_runs : Dn K mg "_law_runs" s_law_runs ["_law_row"] f_law_runs fd_law_runs)  : FnOk P w K mg base CX0 1 f_law_runs fd_law_runs ["_law_row"] spFull := by
  refine D_law_runs.fn.ok sc_law_runs (fun vs H Q E h => ?_) (fun cdv A outer s H vs Q E hr h => ?_)
  · obtain ⟨r, rfl, _⟩ := h
    rfl
  · obtain ⟨r, rfl, hr1, k⟩ := h
    have hz : r.length ≤ sizeLine := Nat.le_trans hr1 (by decide)
    have hL : r.cps.toList.length = r.cps.size := Array.length_toList
    refine ⟨_, (pss_cons (ps_set (i := 1) sc_law_runs.nd rfl (Or.inl rfl) (pe_lst pa_nil))
      (pss_cons (ps_for PassesOwn.never rfl (pi_range2 rfl T.z_range (pa_cons pe_int (pa_cons (pe_callB (call_len) rfl T.z_len bo_len (pa_cons (pv 0) pa_nil)) pa_nil))) (pg_name (i := 2) sc_law_runs.nd rfl (Or.inl rfl)) (pss_cons (ps_set (i := 3) sc_law_runs.nd rfl (Or.inl rfl) pe_int)
      (pss_one (ps_for PassesOwn.never rfl (pi_range1 rfl T.z_range (pa_cons (pe_op op_add (pe_op op_sub (pe_callB (call_len) rfl T.z_len bo_len (pa_cons (pv 0) pa_nil)) (pv 2)) pe_int) pa_nil)) (pg_name (i := 4) sc_law_runs.nd rfl (Or.inl rfl)) (pss_one (ps_if (PW.pt (pw_and (pt_cmpR op_lt (pv 4) (pe_op op_sub (pe_callB (call_len) rfl T.z_len bo_len (pa_cons (pv 0) pa_nil)) (pv 2)) (nomark _)) (pw_and1 (pt_cmpR op_eq (pe_ix ix_str (pv 0) (pv 4) (fun _ _ => rfl)) (pe_ix ix_str (pv 0) (pe_op op_add (pv 4) (pv 2)) (fun _ _ => rfl)) (nomark _))))) (pss_one (ps_set (i := 3) sc_law_runs.nd rfl (Or.inl rfl) (pe_op op_add (pv 3) pe_int))) (pss_one (ps_if (pt_cmpR op_gt (pv 3) pe_int (nomark _)) (pss_cons (ps_expr (pe_bm PySem.F.plainAttrs_list PySem.F.slot_list_append PySem.F.type_list_append mt_append (pv 1) (pa_cons (pe_tup (pa_cons (pe_op op_sub (pv 4) (pv 3)) (pa_cons (pe_op op_add (pe_op op_sub (pv 4) (pv 3)) (pv 2)) (pa_cons (pv 3) pa_nil)))) pa_nil)))
      (pss_one (ps_set (i := 3) sc_law_runs.nd rfl (Or.inl rfl) pe_int))) pss_nil))))))))
      (pss_one (ps_ret (pe_callB (call_sorted3) rfl T.z_sorted bo_sorted (pa_cons (pv 1) pa_nil)))))), ?_⟩
    refine ⟨by show 0 ≤ sizeLine; decide, fun f hf => ?_⟩
    refine ⟨_, rfl, _, _, rfl, ⟨hz, rfl⟩, 1, ((r.cps.size : Nat) : Int), rfl, ⟨by omega, by omega, by omega, by omega⟩, ?_⟩
    refine for_range (lo := 1) (fun gt σ H3 => ∃ (vs : List V) (xs : List TS.T3) (v2 v3 v4 : Option V), σ = [some (.str r), some (.ref f), v2, v3, v4] ∧ Same H H3 ∧ H3 f = some (.lst vs) ∧ Paired (Tw H3) vs xs ∧ vs.length ≤ gt * 100 ∧ Runs r.cps.toList (gt + 1) xs) ⟨[], [], _, _, _, rfl, Same.upd hf, upd_same, .nil, Nat.zero_le _, Runs.nil⟩ ?_ ?_
    · rintro gt σ H3 hgt ⟨vs, xs, v2, v3, v4, rfl, s3, hf3, hP, hlen, hR⟩
      obtain ⟨g, hg⟩ : ∃ g : Nat, g = gt + 1 := ⟨_, rfl⟩
      have eg : (1 : Int) + (gt : Int) = (g : Int) := by omega
      rw [eg]
      rw [← hg] at hR
      refine ⟨_, rfl, _, _, rfl, ⟨hz, rfl⟩, _, rfl, _, _, rfl, rfl, _, _, rfl, rfl, _, rfl, by show (-(2 ^ 62) : Int) ≤ ((r.cps.size : Nat) : Int) - (g : Int) + 1; omega, by show ((r.cps.size : Nat) : Int) - (g : Int) + 1 < 2 ^ 62; omega, ?_⟩
      refine for_range (lo := 0) (n := (((r.cps.size : Nat) : Int) - (g : Int) + 1).toNat) (fun i σ H5 => ∃ (vs : List V) (xs : List TS.T3) (m : Nat) (v4 : Option V), σ = [some (.str r), some (.ref f), some (.int (g : Int)), some (.int (m : Int)), v4] ∧ Same H H5 ∧ H5 f = some (.lst vs) ∧ Paired (Tw H5) vs xs ∧ vs.length ≤ gt * 100 + i ∧ Run r.cps.toList g i m xs) ⟨vs, xs, 0, _, rfl, s3, hf3, hP, hlen, hR.start⟩ ?_ ?_
      · rintro i σ H5 hi ⟨vs, xs, m, v4, rfl, s5, hf5, hP5, hlen5, hR5⟩
        have hm := hR5.le
        rw [Int.zero_add]
        refine ⟨_, rfl, _, rfl, _, _, rfl, ⟨hz, rfl⟩, _, rfl, _, _, rfl, rfl, _, _, rfl, rfl, _, rfl, ?_⟩
        refine ite_dec (fun h1 => ?_) fun h1 => ?_
        · have h1' : i + g < r.cps.size := by have h2 : (i : Int) < ((r.cps.size : Nat) : Int) - (g : Int) := h1; omega
          obtain ⟨c, hc⟩ := cps_at (x := r) (i := i) (by omega)
          obtain ⟨d, hd⟩ := cps_at (x := r) (i := i + g) h1'
          refine ⟨_, rfl, _, rfl, r, _, c, rfl, rfl, hz, atI_nat (cps_list hc), _, rfl, _, rfl, _, rfl, _, _, rfl, rfl, r, _, d, rfl, rfl, hz, (by rw [show (i : Int) + (g : Int) = ((i + g : Nat) : Int) by omega]; exact atI_nat (cps_list hd)), rfl, ?_⟩
          by_cases z : c = d
          · subst z
            rw [decide_eq_true (rfl : V.str ⟨#[c]⟩ = V.str ⟨#[c]⟩)]
            refine ⟨_, rfl, iteT ?_⟩
            exact ⟨_, rfl, _, _, rfl, rfl, vs, xs, m + 1, _, rfl, s5, hf5, hP5, by omega, hR5.hit ⟨c, cps_list hc, cps_list hd⟩⟩
          · have no : ¬ Eq2 r.cps.toList i (i + g) := fun ⟨e, e1, e2⟩ => z (by
              rw [cps_list hc] at e1
              rw [cps_list hd] at e2
              rw [Option.some.inj e1, Option.some.inj e2])
            rw [decide_eq_false (fun e => z (by injection e with e1; injection e1 with e2; simpa using e2))]
            refine ⟨_, rfl, iteF ?_⟩
            refine ⟨_, rfl, _, _, rfl, rfl, _, rfl, ?_⟩
            refine ite_dec (fun h2 => ?_) fun h2 => ?_
            · have h2' : 0 < m := by have h3 : (0 : Int) < (m : Int) := h2; omega
              have e1 : (i : Int) - (m : Int) = ((i - m : Nat) : Int) := by omega
              have e2 : (i : Int) - (m : Int) + (g : Int) = ((i - m + g : Nat) : Int) := by omega
              refine ⟨_, rfl, .inl ⟨rfl, _, SqL.of hf5⟩, _, rfl, _, rfl, _, _, rfl, rfl, _, rfl, _, rfl, _, _, rfl, rfl, _, rfl, _, _, rfl, rfl, _, rfl, by show 3 ≤ sizeLine; decide, fun q hq => ?_⟩
              have eT : HO.tup [V.int ((i : Int) - (m : Int)), V.int ((i : Int) - (m : Int) + (g : Int)), V.int (m : Int)] = tu3 (n3 (i - m) (i - m + g) m) := by
                rw [e2, e1]
                rfl
              have s6 : Same H5 (upd H5 q (.tup [.int ((i : Int) - (m : Int)), .int ((i : Int) - (m : Int) + (g : Int)), .int (m : Int)])) := Same.upd hq
              have hq6 : upd H5 q (.tup [.int ((i : Int) - (m : Int)), .int ((i : Int) - (m : Int) + (g : Int)), .int (m : Int)]) q = some (tu3 (n3 (i - m) (i - m + g) m)) := by rw [upd_same, eT]
              have hf6 := s6 _ _ hf5
              refine ⟨f, _, _, rfl, rfl, hf6, Nat.lt_of_le_of_lt (show vs.length ≤ 10000 by omega) (by decide), ?_⟩
              refine ⟨vs ++ [.ref q], xs ++ [n3 (i - m) (i - m + g) m], 0, _, rfl, Same.at (s5.trans s6) hf, upd_same, ?_, by rw [List.length_append, List.length_singleton]; omega, hR5.miss (by omega) h2' no⟩
              exact GP.Paired.snoc (Paired.mapP hP5 fun v t z => GP.Tw.off (GP.Tw.same z s6) hf6) (GP.Tw.off ⟨q, rfl, hq6⟩ hf6)
            · have h2' : m = 0 := by have h3 : ¬ (0 : Int) < (m : Int) := h2; omega
              subst h2'
              exact ⟨vs, xs, 0, _, rfl, s5, hf5, hP5, by omega, hR5.missN no⟩
        · have h1' : ¬ i + g < r.cps.size := by have h2 : ¬ (i : Int) < ((r.cps.size : Nat) : Int) - (g : Int) := h1; omega
          have no : ¬ Eq2 r.cps.toList i (i + g) := fun e => by have := e.lt; omega
          refine ⟨_, rfl, _, _, rfl, rfl, _, rfl, ?_⟩
          refine ite_dec (fun h2 => ?_) fun h2 => ?_
          · have h2' : 0 < m := by have h3 : (0 : Int) < (m : Int) := h2; omega
            have e1 : (i : Int) - (m : Int) = ((i - m : Nat) : Int) := by omega
            have e2 : (i : Int) - (m : Int) + (g : Int) = ((i - m + g : Nat) : Int) := by omega
            refine ⟨_, rfl, .inl ⟨rfl, _, SqL.of hf5⟩, _, rfl, _, rfl, _, _, rfl, rfl, _, rfl, _, rfl, _, _, rfl, rfl, _, rfl, _, _, rfl, rfl, _, rfl, by show 3 ≤ sizeLine; decide, fun q hq => ?_⟩
            have eT : HO.tup [V.int ((i : Int) - (m : Int)), V.int ((i : Int) - (m : Int) + (g : Int)), V.int (m : Int)] = tu3 (n3 (i - m) (i - m + g) m) := by
              rw [e2, e1]
              rfl
            have s6 : Same H5 (upd H5 q (.tup [.int ((i : Int) - (m : Int)), .int ((i : Int) - (m : Int) + (g : Int)), .int (m : Int)])) := Same.upd hq
            have hq6 : upd H5 q (.tup [.int ((i : Int) - (m : Int)), .int ((i : Int) - (m : Int) + (g : Int)), .int (m : Int)]) q = some (tu3 (n3 (i - m) (i - m + g) m)) := by rw [upd_same, eT]
            have hf6 := s6 _ _ hf5
            refine ⟨f, _, _, rfl, rfl, hf6, Nat.lt_of_le_of_lt (show vs.length ≤ 10000 by omega) (by decide), ?_⟩
            refine ⟨vs ++ [.ref q], xs ++ [n3 (i - m) (i - m + g) m], 0, _, rfl, Same.at (s5.trans s6) hf, upd_same, ?_, by rw [List.length_append, List.length_singleton]; omega, hR5.miss (by omega) h2' no⟩
            exact GP.Paired.snoc (Paired.mapP hP5 fun v t z => GP.Tw.off (GP.Tw.same z s6) hf6) (GP.Tw.off ⟨q, rfl, hq6⟩ hf6)
          · have h2' : m = 0 := by have h3 : ¬ (0 : Int) < (m : Int) := h2; omega
            subst h2'
            exact ⟨vs, xs, 0, _, rfl, s5, hf5, hP5, by omega, hR5.missN no⟩
      · rintro σ H5 ⟨vs, xs, m, v4, rfl, s5, hf5, hP5, hlen5, hR5⟩
        refine ⟨vs, xs, _, _, _, rfl, s5, hf5, hP5, by omega, ?_⟩
        have := hR5.stop (by omega)
        rw [hg] at this
        exact this
    · rintro σ H3 ⟨vs, xs, v2, v3, v4, rfl, s3, hf3, hP, hlen, hR⟩
      refine ⟨_, rfl, f, vs, xs, rfl, SqL.of hf3, hP, Og.nd hR.pw, fun l vs' xs' hl pm pw hP' => ?_⟩
      have lp := pm.length_eq
      have l1 := Paired.len hP
      have l2 := Paired.len hP'
      exact k l _ vs' xs' (s3.trans (Same.upd hl)) (Same.free s3 hl) upd_same (Paired.mapP hP' fun v t z => GP.Tw.same z (Same.upd hl)) (hR.all (by omega) pm pw) (by omega)
end
section
variable {P : Program} {w : World} {K : PySem.W.Frag} {mg : Str → Option Value} {base : Heap}
theorem ok_longest_twin {f_longest_twin f_check_signs_alone f_full_twins : Addr} {fd_longest_twin fd_check_signs_alone fd_full_twins : FuncData} {p : Pm} (T : Txt K mg p base) (D_longest_twin : Dn K mg "longest_twin" s_longest_twin ["row"] f_longest_twin fd_longest_twin) (D_check_signs_alone : Dn K mg "check_signs_alone" s_check_signs_alone ["row"] f_check_signs_alone fd_check_signs_alone) (G_check_signs_alone : FnOk P w K mg base CX0 2 f_check_signs_alone fd_check_signs_alone ["row"] spAloneS) (D_full_twins : Dn K mg "full_twins" s_full_twins ["row"] f_full_twins fd_full_twins) (G_full_twins : FnOk P w K mg base CX0 2 f_full_twins fd_full_twins ["row"] spFull) : FnOk P w K mg base CX0 3 f_longest_twin fd_longest_twin ["row"] (spLong (lamTab K NM) LN LQ) := by
  refine D_longest_twin.fn.okL T.lk_longest_twin (T.ln_longest_twin _ D_longest_twin.m) sc_longest_twin (fun vs H Q E h => ?_) (fun cdv A outer s H vs Q E hC hr h => ?_)
  · obtain ⟨r, rfl, _⟩ := h
    rfl
  · obtain ⟨r, rfl, hr1, hs, hT, k⟩ := h
    refine ⟨_, (pss_cons (ps_expr (pe_call G_check_signs_alone (hr.mono (by decide)) rfl D_check_signs_alone.m D_check_signs_alone.fn.kp D_check_signs_alone.b .nil pass0 (pa_cons (pv 0) pa_nil)))
      (pss_one (ps_ret (pe_maxL (P := lamTab K "longest_twin") rfl hC T.bm rfl (room_dp hr) (by exact ⟨⟨_, _, _, _, _, rfl, rfl, by decide +kernel, fun _ _ _ _ _ => rfl⟩, by decide +kernel, rfl, rfl, rfl⟩) rfl T.z_max bo_max (pa_cons (pe_call G_full_twins (hr.mono (by decide)) rfl D_full_twins.m D_full_twins.fn.kp D_full_twins.b .nil pass0 (pa_cons (pv 0) pa_nil)) pa_nil))))), ?_⟩
    refine ⟨_, rfl, r, rfl, by omega, hs, fun H1 s1 => ?_⟩
    refine ⟨_, rfl, r, rfl, hr1, fun lf H2 ws xs s2 hlf hlf2 hP hA hlen => ?_⟩
    refine ⟨lf, ws, xs, rfl, SqL.of hlf2, hP, TabOk.same (TabOk.same hT s1) s2, fun H3 o3 hT3 => ?_⟩
    obtain ⟨φ, hx⟩ := tab_ext (TabOk.same (TabOk.same hT s1) s2)
    obtain ⟨k0, k1⟩ := k H3 (Ofp.trans (Ofp.of (s1.trans s2)) o3) hT3
    refine ⟨fun e => k0 fun x hx => ?_, fun i v x hv hx' hb => k1 v x ?_ (lg_of hA hx' hb)⟩
    · have := (hA.mem x).mpr hx
      rw [e] at this
      cases this
    · obtain ⟨y, hy, tw⟩ := Paired.at hP hv
      rw [hx'] at hy
      cases hy
      exact Ofp.tw o3 hx tw
theorem ok_longest_twin_X {f_longest_twin f_check_signs_alone f_full_twins : Addr} {fd_longest_twin fd_check_signs_alone fd_full_twins : FuncData} {p : Pm} (T : Txt K mg p base) (D_longest_twin : Dn K mg "longest_twin" s_longest_twin ["row"] f_longest_twin fd_longest_twin) (D_check_signs_alone : Dn K mg "check_signs_alone" s_check_signs_alone ["row"] f_check_signs_alone fd_check_signs_alone) (G_check_signs_alone : FnOk P w K mg base (CXs P w) 3 f_check_signs_alone fd_check_signs_alone ["row"] (spAloneX p.C_NoSign)) (D_full_twins : Dn K mg "full_twins" s_full_twins ["row"] f_full_twins fd_full_twins) (G_full_twins : FnOk P w K mg base CX0 2 f_full_twins fd_full_twins ["row"] spFull) : FnOk P w K mg base (CXs P w) 4 f_longest_twin fd_longest_twin ["row"] (spLongX p.C_NoSign) := by
  refine D_longest_twin.fn.okX sc_longest_twin (fun vs H Q E h => ?_) (fun cdv A outer s H vs Q E hr h => ?_)
  · obtain ⟨r, j, rfl, _⟩ := h
    rfl
  · obtain ⟨r, j, rfl, hr1, hb, k⟩ := h
    refine ⟨_, (pss_cons (ps_expr (pe_call G_check_signs_alone (hr.mono (by decide)) rfl D_check_signs_alone.m D_check_signs_alone.fn.kp D_check_signs_alone.b .nil (Lets.passes lets_fn) (pa_cons (pv 0) pa_nil)))
      (pss_one ps_never)), ?_⟩
    exact ⟨_, rfl, r, j, rfl, hr1, hb, k⟩
theorem ok_law_fits {f_law_fits f_law_runs f_longest_twin f_law_same : Addr} {fd_law_fits fd_law_runs fd_longest_twin fd_law_same : FuncData} {p : Pm} (T : Txt K mg p base) (D_law_fits : Dn K mg "_law_fits" s_law_fits ["_law_row"] f_law_fits fd_law_fits) (D_law_runs : Dn K mg "_law_runs" s_law_runs ["_law_row"] f_law_runs fd_law_runs) (G_law_runs : FnOk P w K mg base CX0 1 f_law_runs fd_law_runs ["_law_row"] spFull) (D_longest_twin : Dn K mg "longest_twin" s_longest_twin ["row"] f_longest_twin fd_longest_twin) (G_longest_twin : FnOk P w K mg base CX0 3 f_longest_twin fd_longest_twin ["row"] (spLong (lamTab K NM) LN LQ)) (D_law_same : Dn K mg "_law_same" s_law_same ["_law_found", "_law_due"] f_law_same fd_law_same) (G_law_same : FnOk P w K mg base CX0 2 f_law_same fd_law_same ["_law_found", "_law_due"] spSameB) : FnOk P w K mg base CX0 4 f_law_fits fd_law_fits ["_law_row"] (spFitL (lamTab K NM) LN LQ) := by
  refine D_law_fits.fn.ok sc_law_fits (fun vs H Q E h => ?_) (fun cdv A outer s H vs Q E hr h => ?_)
  · obtain ⟨r, rfl, _⟩ := h
    rfl
  · obtain ⟨r, rfl, hr1, hs, hT, k⟩ := h
    have hz : r.length ≤ sizeLine := Nat.le_trans hr1 (by decide)
    refine ⟨_, (pss_cons (ps_set (i := 1) sc_law_fits.nd rfl (Or.inl rfl) pe_non)
      (pss_cons (ps_for PassesOwn.never rfl (pi_list (pe_call G_law_runs (hr.mono (by decide)) rfl D_law_runs.m D_law_runs.fn.kp D_law_runs.b .nil pass0 (pa_cons (pv 0) pa_nil))) (pg_name (i := 2) sc_law_fits.nd rfl (Or.inl rfl)) (pss_one (ps_if (PW.pt (pw_or (pt_cmpR op_isN (pv 1) pe_non (by with_unfolding_all rfl)) (pw_or1 (pt_cmpR op_gt (pe_ix ix_tup (pv 2) pe_int (fun _ _ => rfl)) (pe_ix ix_tup (pv 1) pe_int (fun _ _ => rfl)) (nomark _))))) (pss_one (ps_set (i := 1) sc_law_fits.nd rfl (Or.inl rfl) (pv 2))) pss_nil)))
      (pss_cons (ps_set (i := 3) sc_law_fits.nd rfl (Or.inl rfl) (pe_call G_longest_twin (hr.mono (by decide)) rfl D_longest_twin.m D_longest_twin.fn.kp D_longest_twin.b .nil pass0 (pa_cons (pv 0) pa_nil)))
      (pss_cons (ps_if (pt_cmpR op_isN (pv 1) pe_non (by with_unfolding_all rfl)) (pss_one (ps_ret (pe_and (pe_cmpR op_isN (pv 3) pe_non (by with_unfolding_all rfl)) (pe_one (pe_cmpR op_eq (pe_callB (call_len_setT) rfl T.z_len bo_len (pa_cons (pe_callTy (call_setT rfl) rfl T.z_set bo_set (pa_cons (pv 0) pa_nil)) pa_nil)) (pe_callB (call_len) rfl T.z_len bo_len (pa_cons (pv 0) pa_nil)) (nomark _)))))) pss_nil)
      (pss_one (ps_ret (pe_call G_law_same (hr.mono (by decide)) rfl D_law_same.m D_law_same.fn.kp D_law_same.b .nil pass0 (pa_cons (pv 3) (pa_cons (pv 1) pa_nil))))))))), ?_⟩
    refine ⟨_, rfl, r, rfl, hr1, fun lf H1 ws xs s1 hlf hlf1 hP hA hlen => ?_⟩
    have hT1 := TabOk.same hT s1
    obtain ⟨φ, hx⟩ := tab_ext hT1
    have hlx := Paired.len hP
    refine ⟨lf, rfl, ⟨_, SqL.of hlf1⟩, for_list (xs := ws) (fun i σ H2 => H2 = H1 ∧ ∃ (best : V) (v2 : Option V), σ = [some (.str r), some best, v2, none] ∧ ((i = 0 ∧ best = .non) ∨ ∃ k q x, best = .ref q ∧ H1 q = some (tu3 x) ∧ Bst xs i k x)) ⟨rfl, .non, _, rfl, .inl ⟨rfl, rfl⟩⟩ (fun i σ H2 _ ⟨e, _⟩ => by rw [e]; exact SqL.of hlf1) ?_ ?_⟩
    · rintro i y σ H2 hy ⟨rfl, best, v2, rfl, hb⟩
      obtain ⟨x, hxi, q, rfl, hq⟩ := Paired.at hP hy
      rcases hb with ⟨rfl, rfl⟩ | ⟨k', q', x', rfl, hq', bb⟩
      · refine ⟨_, rfl, rfl, _, rfl, ?_⟩
        rw [decide_eq_true (rfl : V.non = V.non)]
        exact iteT ⟨_, rfl, rfl, .ref q, _, rfl, .inr ⟨0, q, x, rfl, hq, Bst.first hxi⟩⟩
      · refine ⟨_, rfl, rfl, _, rfl, ?_⟩
        rw [decide_eq_false (show ¬ V.ref q' = V.non from fun z => by cases z)]
        refine iteF ?_
        refine ⟨_, rfl, q, _, _, _, rfl, rfl, SqT.of hq, rfl, _, rfl, q', _, _, _, rfl, rfl, SqT.of hq', rfl, _, _, rfl, rfl, _, rfl, ?_⟩
        refine ite_dec (fun h1 => ?_) fun h1 => ?_
        · exact ⟨_, rfl, rfl, .ref q, _, rfl, .inr ⟨i, q, x, rfl, hq, bb.more hxi h1⟩⟩
        · exact ⟨rfl, .ref q', _, rfl, .inr ⟨k', q', x', rfl, hq', bb.stay hxi h1⟩⟩
    · rintro σ H2 ⟨rfl, best, v2, rfl, hb⟩
      refine ⟨_, rfl, r, rfl, hr1, hs, hT1, fun H3 o3 hT3 => ⟨fun hno => ?_, fun v x tw lg => ?_⟩⟩
      · have e0 : best = .non := by
          rcases hb with ⟨_, e⟩ | ⟨k', q', x', _, _, bb⟩
          · exact e
          · exact absurd ((hA.mem x').mp (List.mem_of_getElem? bb.1)) (hno x')
        subst e0
        refine ⟨_, rfl, rfl, _, rfl, ?_⟩
        rw [decide_eq_true (rfl : V.non = V.non)]
        refine iteT ⟨_, rfl, rfl, _, rfl, iteT ?_⟩
        refine ⟨_, rfl, r, rfl, Nat.lt_of_le_of_lt (show r.cps.size + 1 ≤ 51 by omega) (by decide), fun p1 hp1 => ?_⟩
        refine ⟨p1, _, rfl, upd_same, _, rfl, _, _, rfl, ⟨hz, rfl⟩, rfl, ?_⟩
        rw [met_signs (no_twins hno), decide_eq_true (show V.int ((r.cps.size : Nat) : Int) = V.int ((r.length : Nat) : Int) from rfl)]
        exact k _ (Ofp.trans (Ofp.of s1) (Ofp.trans o3 (Ofp.of (Same.upd hp1)))) (TabOk.same hT3 (Same.upd hp1))
      · rcases hb with ⟨e, _⟩ | ⟨k', q', x', rfl, hq', bb⟩
        · exfalso
          have := (hA.mem x).mpr lg.1
          rw [List.length_eq_zero_iff.mp (show xs.length = 0 by omega)] at this
          cases this
        · have bb' : Bst xs xs.length k' x' := by rw [← hlx]; exact bb
          have ex := (bb'.lg hA).uniq lg
          subst ex
          have hq3 : H3 q' = some (tu3 x') := Ofp.keep o3 hx (fun _ z => by cases z) hq'
          obtain ⟨q, rfl, hq⟩ := tw
          refine ⟨_, rfl, rfl, _, rfl, ?_⟩
          rw [decide_eq_false (show ¬ V.ref q' = V.non from fun z => by cases z)]
          refine iteF ⟨_, rfl, _, rfl, _, _, rfl, .inr ⟨q, q', _, rfl, rfl, ?_, by show 3 ≤ 1000; decide, .inl ⟨hq, hq3⟩⟩, fun H4 s4 => k _ (Ofp.trans (Ofp.of s1) (Ofp.trans o3 (Ofp.of s4))) (TabOk.same hT3 s4)⟩
          intro y hy
          rcases List.mem_cons.mp hy with rfl | hy
          · rfl
          · rcases List.mem_cons.mp hy with rfl | hy
            · rfl
            · rw [List.mem_singleton.mp hy]; rfl
theorem ok_law_refused {f_law_refused f_longest_twin f_law_same : Addr} {fd_law_refused fd_longest_twin fd_law_same : FuncData} {p : Pm} (T : Txt K mg p base) (D_law_refused : Dn K mg "_law_refused" s_law_refused ["_law_row", "_law_place"] f_law_refused fd_law_refused) (D_longest_twin : Dn K mg "longest_twin" s_longest_twin ["row"] f_longest_twin fd_longest_twin) (G_longest_twin : FnOk P w K mg base (CXs P w) 4 f_longest_twin fd_longest_twin ["row"] (spLongX p.C_NoSign)) (D_law_same : Dn K mg "_law_same" s_law_same ["_law_found", "_law_due"] f_law_same fd_law_same) (G_law_same : FnOk P w K mg base CX0 2 f_law_same fd_law_same ["_law_found", "_law_due"] spSameB) : FnOk P w K mg base CX0 6 f_law_refused fd_law_refused ["_law_row", "_law_place"] spRefL := by
  refine D_law_refused.fn.ok sc_law_refused (fun vs H Q E h => ?_) (fun cdv A outer s H vs Q E hr h => ?_)
  · obtain ⟨r, j, rfl, _⟩ := h
    rfl
  · obtain ⟨r, j, rfl, hr1, hb, kk⟩ := h
    refine ⟨_, (pss_cons (ps_set (i := 2) sc_law_refused.nd rfl (Or.inl rfl) pe_non)
      (pss_mid (ps_try fm_nox (fun _ _ _ LT PO => (pss_one (ps_expr (pe_callX G_longest_twin (hr.mono (by decide)) rfl D_longest_twin.m D_longest_twin.fn.kp D_longest_twin.b .nil LT (pa_cons (pv 0) pa_nil))))) (ph_as (i := 3) sc_law_refused.nd rfl rfl rfl T.mg_NoSign T.xb_NoSign (fun ea => (pss_one (ps_set (i := 2) sc_law_refused.nd rfl (Or.inl rfl) (pe_tup (pa_cons (pe_fldEK (K' := K) rfl (pv 3) rfl) (pa_cons (pe_fldEK (K' := K) rfl (pv 3) rfl) pa_nil)))))) ph_nil))
      (pss_one (ps_ret (pe_call G_law_same (hr.mono (by decide)) rfl D_law_same.m D_law_same.fn.kp D_law_same.b .nil pass0 (pa_cons (pv 2) (pa_cons (pe_tup (pa_cons pe_int (pa_cons (pv 1) pa_nil))) pa_nil))))))), ?_⟩
    refine ⟨fun σ' H' => Same H H' ∧ ∃ t1, σ' = [some (.str r), some (.int (j : Int)), some (.ref t1), none] ∧ H' t1 = some (.tup [.int ((0 : Nat) : Int), .int (j : Int)]), ?_, ?_⟩
    · refine ⟨_, rfl, r, j, rfl, hr1, hb, fun dx H' s' hd => ?_⟩
      refine ⟨_, _, rfl, T.ks_NoSign_NoSign, iteT fun ea hea => ?_⟩
      have he2 : upd H' ea (exO ea (.ref p.C_NoSign) (some dx)) ea = some (exO ea (.ref p.C_NoSign) (some dx)) := upd_same
      have hd2 : upd H' ea (exO ea (.ref p.C_NoSign) (some dx)) dx = some (xdO dx (fldS 0 j)) := Same.upd hea _ _ hd
      have s2 : Same H' (upd H' ea (exO ea (.ref p.C_NoSign) (some dx))) := Same.upd hea
      refine ⟨_, rfl, ea, _, dx, _, _, rfl, he2, hd2, T.xt_NoSign, T.n_NoSign_row, fldS_row, _, rfl, ea, _, dx, _, _, rfl, he2, hd2, T.xt_NoSign, T.n_NoSign_place, fldS_place, by show 2 ≤ sizeLine; decide, fun t1 ht1 => ?_⟩
      exact ⟨(s'.trans s2).trans (Same.upd ht1), t1, rfl, upd_same⟩
    rintro σ' H1 ⟨s1, t1, rfl, h1⟩
    refine ⟨_, rfl, _, rfl, by show 2 ≤ sizeLine; decide, fun t2 ht2 => ?_⟩
    have s2 : Same H1 (upd H1 t2 (.tup [.int ((0 : Nat) : Int), .int (j : Int)])) := Same.upd ht2
    refine ⟨_, _, rfl, .inr ⟨t1, t2, _, rfl, rfl, ?_, by show 2 ≤ 1000; decide, .inl ⟨s2 _ _ h1, upd_same⟩⟩, fun H3 s3 => kk H3 ((s1.trans s2).trans s3)⟩
    intro y hy
    rcases List.mem_cons.mp hy with rfl | hy
    · rfl
    · rw [List.mem_singleton.mp hy]; rfl
end
section
variable {P : Program} {w : World} {K : PySem.W.Frag} {mg : Str → Option Value} {base : Heap}
theorem ok_law {f_law f_law_drawn_row f_law_next f_law_fits f_law_refused : Addr} {fd_law fd_law_drawn_row fd_law_next fd_law_fits fd_law_refused : FuncData} {p : Pm} (T : Txt K mg p base) (D_law : Dn K mg "law" s_law ["_law_script"] f_law fd_law) (D_law_drawn_row : Dn K mg "_law_drawn_row" s_law_drawn_row ["_law_script", "_law_at", "_law_most"] f_law_drawn_row fd_law_drawn_row) (G_law_drawn_row : FnOk P w K mg base CX0 3 f_law_drawn_row fd_law_drawn_row ["_law_script", "_law_at", "_law_most"] (spDrawnR K)) (D_law_next : Dn K mg "_law_next" s_law_next ["_law_script", "_law_at"] f_law_next fd_law_next) (G_law_next : FnOk P w K mg base CX0 1 f_law_next fd_law_next ["_law_script", "_law_at"] (spNext K)) (D_law_fits : Dn K mg "_law_fits" s_law_fits ["_law_row"] f_law_fits fd_law_fits) (G_law_fits : FnOk P w K mg base CX0 4 f_law_fits fd_law_fits ["_law_row"] (spFitL (lamTab K NM) LN LQ)) (D_law_refused : Dn K mg "_law_refused" s_law_refused ["_law_row", "_law_place"] f_law_refused fd_law_refused) (G_law_refused : FnOk P w K mg base CX0 6 f_law_refused fd_law_refused ["_law_row", "_law_place"] spRefL) : FnOk P w K mg base CX0 7 f_law fd_law ["_law_script"] (spLawT K NM LN LQ) := by
  refine D_law.fn.ok sc_law (fun vs H Q E h => ?_) (fun cdv A outer s H vs Q E hr h => ?_)
  · obtain ⟨a, ns, rfl, _⟩ := h
    rfl
  · obtain ⟨a, ns, rfl, hS, hlen, hT, k⟩ := h
    refine ⟨_, (pss_cons (ps_set (i := 1) sc_law.nd rfl (Or.inl rfl) (pe_lst (pa_cons pe_int pa_nil)))
      (pss_cons (ps_set (i := 2) sc_law.nd rfl (Or.inl rfl) (pe_call G_law_drawn_row (hr.mono (by decide)) rfl D_law_drawn_row.m D_law_drawn_row.fn.kp D_law_drawn_row.b .nil pass0 (pa_cons (pv 0) (pa_cons (pv 1) (pa_cons pe_int pa_nil)))))
      (pss_mid (ps_for PassesOwn.never rfl (pi_list (pe_lst (pa_cons (pv 2) (pa_cons (pe_slice sl_str (pv 2) po_none (po_some pe_int)) (pa_cons (pe_slice sl_str (pv 2) po_none (po_some (pe_op op_fdiv (pe_callB (call_len) rfl T.z_len bo_len (pa_cons (pv 2) pa_nil)) pe_int))) (pa_cons pe_str (pa_cons (pv 2) pa_nil))))))) (pg_name (i := 3) sc_law.nd rfl (Or.inl rfl)) (pss_one (ps_if (pt_not (pt_val (pe_call G_law_fits (hr.mono (by decide)) rfl D_law_fits.m D_law_fits.fn.kp D_law_fits.b .nil pass0 (pa_cons (pv 3) pa_nil)))) (pss_one (ps_ret pe_bl)) pss_nil)))
      (pss_mid (ps_set (i := 4) sc_law.nd rfl (Or.inl rfl) (pe_call G_law_next (hr.mono (by decide)) rfl D_law_next.m D_law_next.fn.kp D_law_next.b .nil pass0 (pa_cons (pv 0) (pa_cons (pv 1) pa_nil))))
      (pss_mid (ps_set (i := 5) sc_law.nd rfl (Or.inl rfl) (pe_op op_mod (pv 4) (pe_op op_add (pe_callB (call_len) rfl T.z_len bo_len (pa_cons (pv 2) pa_nil)) pe_int)))
      (pss_mid (ps_set (i := 6) sc_law.nd rfl (Or.inl rfl) (pe_op op_add_str (pe_op op_add_str (pe_slice sl_str (pv 2) po_none (po_some (pv 5))) (pe_ix ix_list (pe_lst (pa_cons pe_str (pa_cons pe_str (pa_cons pe_str (pa_cons pe_str pa_nil))))) (pe_op op_mod (pe_op op_fdiv (pv 4) pe_int) pe_int) (fun _ _ => rfl))) (pe_slice sl_str (pv 2) (po_some (pv 5)) po_none)))
      (pss_mid (ps_set (i := 7) sc_law.nd rfl (Or.inl rfl) (pe_op op_add (pe_op op_add (pv 5) pe_int) (pe_op op_mod (pe_op op_fdiv (pv 4) pe_int) (pe_op op_add (pe_op op_sub (pe_callB (call_len) rfl T.z_len bo_len (pa_cons (pv 2) pa_nil)) (pv 5)) pe_int))))
      (pss_mid (ps_set (i := 8) sc_law.nd rfl (Or.inl rfl) (pe_op op_add_str (pe_op op_add_str (pe_slice sl_str (pv 6) po_none (po_some (pv 7))) (pe_ix ix_list (pe_lst (pa_cons pe_str (pa_cons pe_str (pa_cons pe_str pa_nil)))) (pe_op op_mod (pe_op op_fdiv (pv 4) pe_int) pe_int) (fun _ _ => rfl))) (pe_slice sl_str (pv 6) (po_some (pv 7)) po_none)))
      (pss_one (ps_ret (pe_and (pe_call G_law_refused (hr.mono (by decide)) rfl D_law_refused.m D_law_refused.fn.kp D_law_refused.b .nil pass0 (pa_cons (pv 6) (pa_cons (pv 5) pa_nil))) (pe_and (pe_call G_law_refused (hr.mono (by decide)) rfl D_law_refused.m D_law_refused.fn.kp D_law_refused.b .nil pass0 (pa_cons (pv 8) (pa_cons (pv 5) pa_nil))) (pe_one (pe_call G_law_refused (hr.mono (by decide)) rfl D_law_refused.m D_law_refused.fn.kp D_law_refused.b .nil pass0 (pa_cons (pe_op op_add_str (pv 2) pe_str) (pa_cons (pe_callB (call_len) rfl T.z_len bo_len (pa_cons (pv 2) pa_nil)) pa_nil)))))))))))))))), ?_⟩
    refine ⟨by show 1 ≤ sizeLine; decide, fun t ht => ?_⟩
    have c1 : Ctr K (upd H t (.lst [.int 0])) a t ns 0 := by
      refine ⟨?_, hlen, upd_same, by decide⟩
      rw [Wo.set]
      exact Same.seq (fun b u e => Wo.in (ne_of_none e ht) e) hS
    have hT0 := TabOk.same hT (Same.upd (o := .lst [.int 0]) ht)
    -- the row
    refine ⟨_, rfl, _, rfl, a, t, ns, 0, rfl, c1, by decide, fun r H1 hs hr44 w1 ht1 => ?_⟩
    have C1 : Ctr K H1 a t ns (0 + 2) := c1.off w1 ht1 (by decide)
    have hT1 := TabOk.wo hT0 c1.at_ w1
    have hz : r.length ≤ sizeLine := Nat.le_trans hr44 (by decide)
    have hL : r.cps.toList.length = r.cps.size := Array.length_toList
    clear c1 w1 ht1 hT0 hT
    -- its parts
    refine ⟨fun σ' H' => ∃ v3, σ' = [some (.ref a), some (.ref t), some (.str r), v3, none, none, none, none, none] ∧ Ctr K H' a t ns (0 + 2) ∧ TabOk H' (lamTab K NM) LN LQ, ?_, ?_⟩
    · refine ⟨_, rfl, _, rfl, _, rfl, r, rfl, hz, ?_⟩
      have op : ∀ {lo hi : Option Int}, Sgs (Txt.slice r lo hi).cps.toList ∧ (Txt.slice r lo hi).cps.size ≤ 50 := fun {lo hi} => ⟨fun c hc => hs c (slice_mem hc), Nat.le_trans (Txt.slice_le r lo hi) (show r.cps.size ≤ 50 by omega)⟩
      refine ⟨_, rfl, _, rfl, _, _, rfl, ⟨hz, rfl⟩, _, _, rfl, rfl, ⟨by decide, by decide⟩, _, rfl, r, rfl, hz, _, rfl, by show 5 ≤ sizeLine; decide, fun li hli => ?_⟩
      generalize hp1 : Txt.slice r none (some 1) = p1
      generalize hp2 : Txt.slice r none (some (((r.length : Nat) : Int) / 2)) = p2
      have o1 : Sgs p1.cps.toList ∧ p1.cps.size ≤ 50 := by rw [← hp1]; exact op
      have o2 : Sgs p2.cps.toList ∧ p2.cps.size ≤ 50 := by rw [← hp2]; exact op
      have all : ∀ v ∈ [V.str r, V.str p1, V.str p2, V.str (Str.ofString ""), V.str r], ∃ q : Str, v = .str q ∧ Sgs q.cps.toList ∧ q.cps.size ≤ 50 := by
        refine List.forall_mem_cons.mpr ⟨⟨_, rfl, hs, by omega⟩, List.forall_mem_cons.mpr ⟨⟨_, rfl, o1.1, o1.2⟩, List.forall_mem_cons.mpr ⟨⟨_, rfl, o2.1, o2.2⟩, List.forall_mem_cons.mpr ⟨⟨_, rfl, fun c hc => (by cases hc), Nat.zero_le _⟩, List.forall_mem_cons.mpr ⟨⟨_, rfl, hs, by omega⟩, fun v hv => nomatch hv⟩⟩⟩⟩⟩
      refine ⟨li, rfl, ⟨_, SqL.of upd_same⟩, for_list (xs := [V.str r, V.str p1, V.str p2, V.str (Str.ofString ""), V.str r]) (fun i σ H2 => ∃ v3, σ = [some (.ref a), some (.ref t), some (.str r), v3, none, none, none, none, none] ∧ H2 li = some (.lst [V.str r, V.str p1, V.str p2, V.str (Str.ofString ""), V.str r]) ∧ Ctr K H2 a t ns (0 + 2) ∧ TabOk H2 (lamTab K NM) LN LQ) ⟨_, rfl, upd_same, C1.same (Same.upd hli), TabOk.same hT1 (Same.upd hli)⟩ (fun i σ H2 _ ⟨_, _, h2, _⟩ => SqL.of h2) ?_ ?_⟩
      · rintro i y σ H2 hy ⟨v3, rfl, h2, C2, hT2⟩
        obtain ⟨q, rfl, hq1, hq2⟩ := all y (List.mem_of_getElem? hy)
        obtain ⟨φ, hx⟩ := tab_ext hT2
        refine ⟨_, rfl, q, rfl, hq2, hq1, hT2, fun H3 o3 hT3 => ⟨_, rfl, iteNT ?_⟩⟩
        exact ⟨_, rfl, Ofp.keep o3 hx (fun _ z => by cases z) h2, Ofp.ctr o3 hx C2, hT3⟩
      · rintro σ H2 ⟨v3, rfl, h2, C2, hT2⟩
        exact ⟨_, rfl, C2, hT2⟩
    clear C1 hT1
    rintro σ' H2 ⟨v3, rfl, C2, hT2⟩
    -- a number
    refine ⟨fun σ' H' => ∃ n : Int, σ' = [some (.ref a), some (.ref t), some (.str r), v3, some (.int n), none, none, none, none] ∧ TabOk H' (lamTab K NM) LN LQ, ?_, ?_⟩
    · exact ⟨_, rfl, _, rfl, a, t, ns, _, rfl, C2, by decide, fun n h1 h2 => ⟨n, rfl, TabOk.put hT2 C2.at_ (fun _ z => by cases z)⟩⟩
    clear C2 hT2
    rintro σ' H9 ⟨n, rfl, D9⟩
    -- the place
    refine ⟨fun σ' H' => H' = H9 ∧ ∃ pl : Nat, σ' = [some (.ref a), some (.ref t), some (.str r), v3, some (.int n), some (.int (pl : Int)), none, none, none] ∧ pl ≤ r.cps.size, ?_, ?_⟩
    · refine ⟨_, rfl, _, rfl, _, _, rfl, ⟨hz, rfl⟩, _, _, rfl, rfl, _, _, rfl, rfl, (by show (0 : Int) < ((r.cps.size : Nat) : Int) + 1; omega), ?_⟩
      have i1 := Int.emod_nonneg n (show ((r.cps.size : Nat) : Int) + 1 ≠ 0 by omega)
      have i2 := Int.emod_lt_of_pos n (show (0 : Int) < ((r.cps.size : Nat) : Int) + 1 by omega)
      refine ⟨rfl, (n % (((r.cps.size : Nat) : Int) + 1)).toNat, ?_, by omega⟩
      rw [Int.toNat_of_nonneg i1]
      rfl
    rintro σ' H10 ⟨rfl, pl, rfl, hpl⟩
    have e1 : Str.ofString "-" = ⟨#[45]⟩ := by decide +kernel
    have e2 : Str.ofString "\"" = ⟨#[34]⟩ := by decide +kernel
    have e3 : Str.ofString "\n" = ⟨#[10]⟩ := by decide +kernel
    have e4 : Str.ofString "\t" = ⟨#[9]⟩ := by decide +kernel
    -- the other row
    refine ⟨fun σ' H' => Same H10 H' ∧ ∃ o : Str, σ' = [some (.ref a), some (.ref t), some (.str r), v3, some (.int n), some (.int (pl : Int)), some (.str o), none, none] ∧ o.cps.size = r.cps.size + 1 ∧ BadS o pl, ?_, ?_⟩
    · obtain ⟨c, hc, hcs⟩ : ∃ c : Nat, atI [V.str (Str.ofString "-"), V.str (Str.ofString "\""), V.str (Str.ofString "\n"), V.str (Str.ofString "\t")] (n / 50 % 4) = some (V.str ⟨#[c]⟩) ∧ isSignN c = false := by
        have h4 : n / 50 % 4 = 0 ∨ n / 50 % 4 = 1 ∨ n / 50 % 4 = 2 ∨ n / 50 % 4 = 3 := by omega
        rw [e1, e2, e3, e4]
        rcases h4 with h | h | h | h <;> rw [h]
        · exact ⟨45, rfl, by decide +kernel⟩
        · exact ⟨34, rfl, by decide +kernel⟩
        · exact ⟨10, rfl, by decide +kernel⟩
        · exact ⟨9, rfl, by decide +kernel⟩
      have lo := slice_lo (x := r) (k := (pl : Int)) (by omega) (by omega)
      have hi := slice_hi (x := r) (k := (pl : Int)) (by omega) (by omega)
      have z1 := Txt.slice_le r none (some (pl : Int))
      have z2 := Txt.slice_le r (some (pl : Int)) none
      have z3 : r.length ≤ 44 := hr44
      have z4 : (⟨#[c]⟩ : Str).length = 1 := rfl
      have z5 : (Txt.slice r none (some (pl : Int)) ++ (⟨#[c]⟩ : Str)).length = (Txt.slice r none (some (pl : Int))).length + (⟨#[c]⟩ : Str).length := strLen_append ..
      refine ⟨_, rfl, _, rfl, _, rfl, r, rfl, hz, by show 4 ≤ sizeLine; decide, fun li hli => ?_⟩
      refine ⟨_, rfl, _, _, rfl, rfl, ⟨by decide, by decide⟩, _, _, rfl, rfl, (by show (0 : Int) < _; decide), li, _, _, _, rfl, rfl, SqL.of upd_same, hc, ?_⟩
      refine ⟨_, _, rfl, rfl, Nat.le_trans (show _ ≤ 1000 by omega) (by decide), _, rfl, _, rfl, _, rfl, r, rfl, hz, _, _, rfl, rfl, Nat.le_trans (show _ ≤ 1000 by omega) (by decide), ?_⟩
      have eo : ((Txt.slice r none (some (pl : Int)) ++ (⟨#[c]⟩ : Str)) ++ Txt.slice r (some (pl : Int)) none).cps.toList = r.cps.toList.take pl ++ [c] ++ r.cps.toList.drop pl := by
        rw [strApp, strApp, lo, hi]
        rfl
      refine ⟨Same.upd hli, _, rfl, ?_, bad_put hs hpl hcs eo⟩
      rw [← Array.length_toList, eo, List.length_append, List.length_append, List.length_take, List.length_drop, List.length_singleton]
      omega
    rintro σ' H11 ⟨s11, o, rfl, ho, hb⟩
    have hzo : o.length ≤ sizeLine := Nat.le_trans (show o.cps.size ≤ 45 by omega) (by decide)
    -- where another one
    have p0 : (0 : Int) < ((r.cps.size : Nat) : Int) - (pl : Int) + 1 := by omega
    have i1 := Int.emod_nonneg (n / 200) (show ((r.cps.size : Nat) : Int) - (pl : Int) + 1 ≠ 0 by omega)
    have i2 := Int.emod_lt_of_pos (n / 200) p0
    refine ⟨fun σ' H' => H' = H11 ∧ ∃ sp : Nat, σ' = [some (.ref a), some (.ref t), some (.str r), v3, some (.int n), some (.int (pl : Int)), some (.str o), some (.int (sp : Int)), none] ∧ pl < sp ∧ sp ≤ o.cps.size, ?_, ?_⟩
    · refine ⟨_, rfl, _, _, rfl, rfl, _, rfl, _, _, rfl, rfl, ⟨by decide, by decide⟩, _, rfl, _, _, rfl, ⟨hz, rfl⟩, _, rfl, _, _, rfl, rfl, _, _, rfl, rfl, _, _, rfl, rfl, p0, _, _, rfl, rfl, ?_⟩
      refine ⟨rfl, ((pl : Int) + 1 + n / 200 % (((r.cps.size : Nat) : Int) - (pl : Int) + 1)).toNat, ?_, by omega, by omega⟩
      rw [Int.toNat_of_nonneg (by omega)]
      rfl
    rintro σ' H12 ⟨rfl, sp, rfl, hsp1, hsp2⟩
    -- the other one put in
    refine ⟨fun σ' H' => Same H12 H' ∧ ∃ o' : Str, σ' = [some (.ref a), some (.ref t), some (.str r), v3, some (.int n), some (.int (pl : Int)), some (.str o), some (.int (sp : Int)), some (.str o')] ∧ o'.cps.size ≤ 1000 ∧ BadS o' pl, ?_, ?_⟩
    · obtain ⟨c, hc⟩ : ∃ c : Nat, atI [V.str (Str.ofString "\n"), V.str (Str.ofString "-"), V.str (Str.ofString "\"")] (n / 20000 % 3) = some (V.str ⟨#[c]⟩) := by
        have h4 : n / 20000 % 3 = 0 ∨ n / 20000 % 3 = 1 ∨ n / 20000 % 3 = 2 := by omega
        rw [e1, e2, e3]
        rcases h4 with h | h | h <;> rw [h]
        · exact ⟨10, rfl⟩
        · exact ⟨45, rfl⟩
        · exact ⟨34, rfl⟩
      have lo := slice_lo (x := o) (k := (sp : Int)) (by omega) (by omega)
      have hi := slice_hi (x := o) (k := (sp : Int)) (by omega) (by omega)
      have z1 := Txt.slice_le o none (some (sp : Int))
      have z2 := Txt.slice_le o (some (sp : Int)) none
      have z3 : o.length ≤ 45 := by show o.cps.size ≤ 45; omega
      have z4 : (⟨#[c]⟩ : Str).length = 1 := rfl
      have z5 : (Txt.slice o none (some (sp : Int)) ++ (⟨#[c]⟩ : Str)).length = (Txt.slice o none (some (sp : Int))).length + (⟨#[c]⟩ : Str).length := strLen_append ..
      have z6 : ((Txt.slice o none (some (sp : Int)) ++ (⟨#[c]⟩ : Str)) ++ Txt.slice o (some (sp : Int)) none).length = (Txt.slice o none (some (sp : Int)) ++ (⟨#[c]⟩ : Str)).length + (Txt.slice o (some (sp : Int)) none).length := strLen_append ..
      refine ⟨_, rfl, _, rfl, _, rfl, o, rfl, hzo, by show 3 ≤ sizeLine; decide, fun li hli => ?_⟩
      refine ⟨_, rfl, _, _, rfl, rfl, ⟨by decide, by decide⟩, _, _, rfl, rfl, (by show (0 : Int) < _; decide), li, _, _, _, rfl, rfl, SqL.of upd_same, hc, ?_⟩
      refine ⟨_, _, rfl, rfl, Nat.le_trans (show _ ≤ 1000 by omega) (by decide), _, rfl, _, rfl, _, rfl, o, rfl, hzo, _, _, rfl, rfl, Nat.le_trans (show _ ≤ 1000 by omega) (by decide), ?_⟩
      refine ⟨Same.upd hli, _, rfl, (by show ((Txt.slice o none (some (sp : Int)) ++ (⟨#[c]⟩ : Str)) ++ Txt.slice o (some (sp : Int)) none).length ≤ 1000; omega), bad_put2 (sp := sp) (c := c) hb hsp1 ?_⟩
      rw [strApp, strApp, lo, hi]
      rfl
    rintro σ' H13 ⟨s13, o', rfl, ho', hb'⟩
    have D13 := TabOk.same (TabOk.same D9 s11) s13
    refine ⟨_, rfl, _, rfl, o, pl, rfl, by omega, hb, fun H14 s14 => ⟨_, rfl, iteT ?_⟩⟩
    refine ⟨_, rfl, _, rfl, o', pl, rfl, ho', hb', fun H15 s15 => ⟨_, rfl, iteT ?_⟩⟩
    refine ⟨_, rfl, _, _, rfl, rfl, Nat.le_trans (show r.cps.size + 1 ≤ 1000 by omega) (by decide), _, rfl, _, _, rfl, ⟨hz, rfl⟩, r ++ Str.ofString "-", r.cps.size, rfl, ?_, ?_, fun H16 s16 => k H16 (TabOk.same (TabOk.same (TabOk.same D13 s14) s15) s16)⟩
    · rw [e1, strAppSize]
      show r.cps.size + 1 ≤ 1000
      omega
    · refine bad_put hs (Nat.le_refl _) (show isSignN 45 = false by decide +kernel) ?_
      rw [e1, strApp, List.take_of_length_le (by omega), List.drop_of_length_le (by omega), List.append_nil]
end
theorem law_ok {P : Program} {w : World} {K : PySem.W.Frag} {mg : Str → Option Value} {base : Heap} {p : Pm} {f_NoSign___init__ f_is_sign f_check_signs_alone f_lengths_ahead f_goes_on_ahead f_full_twins f_longest_twin f_law_next f_law_signs f_law_same f_law_drawn_row f_law_runs f_law_fits f_law_refused f_law : Addr} {fd_NoSign___init__ fd_is_sign fd_check_signs_alone fd_lengths_ahead fd_goes_on_ahead fd_full_twins fd_longest_twin fd_law_next fd_law_signs fd_law_same fd_law_drawn_row fd_law_runs fd_law_fits fd_law_refused fd_law : FuncData} (T : Txt K mg p base)
    (D_NoSign___init__ : Dm K "__init__" "NoSign.__init__" s_NoSign___init__ ["self", "row", "place"] f_NoSign___init__ fd_NoSign___init__)
    (D_is_sign : Dn K mg "is_sign" s_is_sign ["sign"] f_is_sign fd_is_sign)
    (D_check_signs_alone : Dn K mg "check_signs_alone" s_check_signs_alone ["row"] f_check_signs_alone fd_check_signs_alone)
    (D_lengths_ahead : Dn K mg "lengths_ahead" s_lengths_ahead ["row", "i", "behind"] f_lengths_ahead fd_lengths_ahead)
    (D_goes_on_ahead : Dn K mg "goes_on_ahead" s_goes_on_ahead ["row", "i", "j"] f_goes_on_ahead fd_goes_on_ahead)
    (D_full_twins : Dn K mg "full_twins" s_full_twins ["row"] f_full_twins fd_full_twins)
    (D_longest_twin : Dn K mg "longest_twin" s_longest_twin ["row"] f_longest_twin fd_longest_twin)
    (D_law_next : Dn K mg "_law_next" s_law_next ["_law_script", "_law_at"] f_law_next fd_law_next)
    (D_law_signs : Dn K mg "_law_signs" s_law_signs ["_law_script", "_law_at", "_law_many"] f_law_signs fd_law_signs)
    (D_law_same : Dn K mg "_law_same" s_law_same ["_law_found", "_law_due"] f_law_same fd_law_same)
    (D_law_drawn_row : Dn K mg "_law_drawn_row" s_law_drawn_row ["_law_script", "_law_at", "_law_most"] f_law_drawn_row fd_law_drawn_row)
    (D_law_runs : Dn K mg "_law_runs" s_law_runs ["_law_row"] f_law_runs fd_law_runs)
    (D_law_fits : Dn K mg "_law_fits" s_law_fits ["_law_row"] f_law_fits fd_law_fits)
    (D_law_refused : Dn K mg "_law_refused" s_law_refused ["_law_row", "_law_place"] f_law_refused fd_law_refused)
    (D_law : Dn K mg "law" s_law ["_law_script"] f_law fd_law)
    (M_NoSign : XMk K p.C_NoSign f_NoSign___init__)
    : FnOk P w K mg base CX0 7 f_law fd_law ["_law_script"] (spLawT K NM LN LQ) := by
  have R_is_sign : FnOk P w K mg base CX0 1 f_is_sign fd_is_sign ["sign"] spIsSign := ok_is_sign T D_is_sign
  have R_law_next : FnOk P w K mg base CX0 1 f_law_next fd_law_next ["_law_script", "_law_at"] (spNext K) := ok_law_next T D_law_next
  have R_law_signs : FnOk P w K mg base CX0 2 f_law_signs fd_law_signs ["_law_script", "_law_at", "_law_many"] (spSigns K) := ok_law_signs T D_law_signs D_law_next R_law_next
  have R_NoSign___init__ : FnOk P w K mg base (CXs P w) 1 f_NoSign___init__ fd_NoSign___init__ ["self", "row", "place"] (spNoSign p.C_NoSign) := ok_NoSign___init__ T D_NoSign___init__
  have R_check_signs_alone : FnOk P w K mg base CX0 2 f_check_signs_alone fd_check_signs_alone ["row"] spAloneS := ok_check_signs_alone T D_check_signs_alone D_is_sign R_is_sign
  have R_check_signs_alone_X : FnOk P w K mg base (CXs P w) 3 f_check_signs_alone fd_check_signs_alone ["row"] (spAloneX p.C_NoSign) := ok_check_signs_alone_X T D_check_signs_alone D_is_sign R_is_sign D_NoSign___init__ M_NoSign R_NoSign___init__
  have R_law_same_A : FnOk P w K mg base CX0 1 f_law_same fd_law_same ["_law_found", "_law_due"] spSameA := ok_law_same_A T D_law_same
  have R_law_same_B : FnOk P w K mg base CX0 2 f_law_same fd_law_same ["_law_found", "_law_due"] spSameB := ok_law_same_B T D_law_same R_law_same_A
  have R_law_drawn_row : FnOk P w K mg base CX0 3 f_law_drawn_row fd_law_drawn_row ["_law_script", "_law_at", "_law_most"] (spDrawnR K) := ok_law_drawn_row T D_law_drawn_row D_law_next R_law_next D_law_signs R_law_signs
  have R_lengths_ahead : FnOk P w K mg base CX0 1 f_lengths_ahead fd_lengths_ahead ["row", "i", "behind"] spLens := ok_lengths_ahead T D_lengths_ahead
  have R_goes_on_ahead : FnOk P w K mg base CX0 1 f_goes_on_ahead fd_goes_on_ahead ["row", "i", "j"] spGoes := ok_goes_on_ahead T D_goes_on_ahead
  have R_full_twins : FnOk P w K mg base CX0 2 f_full_twins fd_full_twins ["row"] spFull := ok_full_twins T D_full_twins D_lengths_ahead R_lengths_ahead D_goes_on_ahead R_goes_on_ahead
  have R_law_runs : FnOk P w K mg base CX0 1 f_law_runs fd_law_runs ["_law_row"] spFull := ok_law_runs T D_law_runs
  have R_longest_twin : FnOk P w K mg base CX0 3 f_longest_twin fd_longest_twin ["row"] (spLong (lamTab K NM) LN LQ) := ok_longest_twin T D_longest_twin D_check_signs_alone R_check_signs_alone D_full_twins R_full_twins
  have R_longest_twin_X : FnOk P w K mg base (CXs P w) 4 f_longest_twin fd_longest_twin ["row"] (spLongX p.C_NoSign) := ok_longest_twin_X T D_longest_twin D_check_signs_alone R_check_signs_alone_X D_full_twins R_full_twins
  have R_law_fits : FnOk P w K mg base CX0 4 f_law_fits fd_law_fits ["_law_row"] (spFitL (lamTab K NM) LN LQ) := ok_law_fits T D_law_fits D_law_runs R_law_runs D_longest_twin R_longest_twin D_law_same R_law_same_B
  have R_law_refused : FnOk P w K mg base CX0 6 f_law_refused fd_law_refused ["_law_row", "_law_place"] spRefL := ok_law_refused T D_law_refused D_longest_twin R_longest_twin_X D_law_same R_law_same_B
  have R_law : FnOk P w K mg base CX0 7 f_law fd_law ["_law_script"] (spLawT K NM LN LQ) := ok_law T D_law D_law_drawn_row R_law_drawn_row D_law_next R_law_next D_law_fits R_law_fits D_law_refused R_law_refused
  exact R_law
theorem all_mk {l : PySem.W.OpenLaw} {w : World} {K : PySem.W.Frag} {h : Heap} {mg : Str → Option Value} {fa : Addr} (X : K.In h) (G : h.Ns mainGlobals mg) (hfa : mg "law" = some (.ref fa))
    {t_FIRST_SIGN : Tok}
    {t_LAST_SIGN : Tok}
    {a_NO_SIGNS : Addr} {od_NO_SIGNS : Option Addr} {n_NO_SIGNS : Nat} {sl_NO_SIGNS : Array (Option Value)} {t_NO_SIGNS0 t_NO_SIGNS1 t_NO_SIGNS2 : Tok}
    {C_WeaveError : Addr}
    {C_NoSign : Addr}
    (lk_longest_twin : lamOk K "longest_twin" = true)
    (g_FIRST_SIGN : PySem.W.nsIn K mainGlobals "FIRST_SIGN" = some (some (.int 32 t_FIRST_SIGN)))
    (g_LAST_SIGN : PySem.W.nsIn K mainGlobals "LAST_SIGN" = some (some (.int 126 t_LAST_SIGN)))
    (g_NO_SIGNS : PySem.W.nsIn K mainGlobals "NO_SIGNS" = some (some (.ref a_NO_SIGNS)))
    (l_NO_SIGNS : K.lookup a_NO_SIGNS = some ⟨.type "tuple", od_NO_SIGNS, .seq #[.int 34 t_NO_SIGNS0, .int 37 t_NO_SIGNS1, .int 45 t_NO_SIGNS2] n_NO_SIGNS, sl_NO_SIGNS⟩)
    (aC_WeaveError : PySem.W.nsIn K mainGlobals "WeaveError" = some (some (.ref C_WeaveError)))
    (aC_NoSign : PySem.W.nsIn K mainGlobals "NoSign" = some (some (.ref C_NoSign)))
    (b1_NoSign : PySem.W.hasDictIn K C_NoSign = true) (b2_NoSign : PySem.W.typeIn K (.ref C_NoSign) = some (.type "type")) (b3_NoSign : PySem.W.mroIn K C_NoSign (.type "BaseException") = some true)
    (y0_NoSign : PySem.W.findIn K (.ref C_NoSign) "__getattribute__" = some (some (.builtin "BaseException.__getattribute__")))
    (y1_NoSign : PySem.W.findIn K (.ref C_NoSign) "__getattr__" = some none)
    (y2_NoSign : PySem.W.hasDictIn K C_NoSign = true)
    (y3_NoSign : PySem.W.findIn K (.ref C_NoSign) "__class__" = some (some (.builtin "object.__class__")))
    (y4_NoSign : PySem.W.specialIn K (.builtin "object.__class__") "__get__" = some (some (.builtin "getset_descriptor.__get__")))
    (y5_NoSign : PySem.W.takesIn K (.builtin "object.__class__") = some true)
    (y6_NoSign : PySem.W.mroIn K C_NoSign (.type "object") = some true)
    (y7_NoSign : PySem.W.mroIn K C_NoSign (.type "BaseException") = some true)
    (u1_NoSign : PySem.W.hasDictIn K C_NoSign = true) (u2_NoSign : ((PySem.W.clsIn K C_NoSign).any fun cd => tailVE cd.mro) = true) (u3_NoSign : PySem.W.findIn K (.ref C_NoSign) "__setattr__" = some (some (.builtin "object.__setattr__"))) (kc_NoSign : PySem.W.keepIn K (.ref C_NoSign) = true)
    (nA_NoSign_row : PySem.W.findIn K (.ref C_NoSign) "row" = some none)
    (nA_NoSign_place : PySem.W.findIn K (.ref C_NoSign) "place" = some none)
    (w1_WeaveError : PySem.W.specialIn K (.ref C_WeaveError) "__getattribute__" = some (some (.builtin "type.__getattribute__"))) (w2_WeaveError : PySem.W.readsIn K C_WeaveError (.type "type") = true) (w3_WeaveError : PySem.W.findCls K (.ref C_WeaveError) (.type "type") "__init__" = some (.val (.builtin "ValueError.__init__")))
    (ks_NoSign_NoSign : PySem.W.subIn K (.ref C_NoSign) (.ref C_NoSign) = some true)
    {od0 an0 : Option Addr} {sl0 : Array (Option Value)} {oc0 kV0 dc0 pm0 cd0 ct0 : Value} {f_NoSign___init__ : Addr}
    (a0 : PySem.W.findIn K (.ref C_NoSign) "__init__" = some (some (.ref f_NoSign___init__))) (i0 : PySem.W.isFn K (.ref f_NoSign___init__) = true) (l0 : K.lookup f_NoSign___init__ = some ⟨oc0, od0, .func (PySem.W.fnOf "__init__" "NoSign.__init__" (defArgs s_NoSign___init__) (defBody s_NoSign___init__) (defScope s_NoSign___init__) .none kV0 dc0 pm0 an0 cd0 ct0), sl0⟩) (c0 : PySem.W.codeIn K cd0 "NoSign.__init__" = true) (k0 : PySem.W.keepIn K (.ref f_NoSign___init__) = true)
    {od1 an1 : Option Addr} {sl1 : Array (Option Value)} {oc1 kV1 dc1 pm1 cd1 ct1 : Value} {f_is_sign : Addr}
    (a1 : PySem.W.nsIn K mainGlobals "is_sign" = some (some (.ref f_is_sign))) (l1 : K.lookup f_is_sign = some ⟨oc1, od1, .func (PySem.W.fnOf "is_sign" "is_sign" (defArgs s_is_sign) (defBody s_is_sign) (defScope s_is_sign) .none kV1 dc1 pm1 an1 cd1 ct1), sl1⟩) (c1 : PySem.W.codeIn K cd1 "is_sign" = true) (k1 : PySem.W.keepIn K (.ref f_is_sign) = true)
    {od2 an2 : Option Addr} {sl2 : Array (Option Value)} {oc2 kV2 dc2 pm2 cd2 ct2 : Value} {f_check_signs_alone : Addr}
    (a2 : PySem.W.nsIn K mainGlobals "check_signs_alone" = some (some (.ref f_check_signs_alone))) (l2 : K.lookup f_check_signs_alone = some ⟨oc2, od2, .func (PySem.W.fnOf "check_signs_alone" "check_signs_alone" (defArgs s_check_signs_alone) (defBody s_check_signs_alone) (defScope s_check_signs_alone) .none kV2 dc2 pm2 an2 cd2 ct2), sl2⟩) (c2 : PySem.W.codeIn K cd2 "check_signs_alone" = true) (k2 : PySem.W.keepIn K (.ref f_check_signs_alone) = true)
    {od3 an3 : Option Addr} {sl3 : Array (Option Value)} {oc3 kV3 dc3 pm3 cd3 ct3 : Value} {f_lengths_ahead : Addr}
    (a3 : PySem.W.nsIn K mainGlobals "lengths_ahead" = some (some (.ref f_lengths_ahead))) (l3 : K.lookup f_lengths_ahead = some ⟨oc3, od3, .func (PySem.W.fnOf "lengths_ahead" "lengths_ahead" (defArgs s_lengths_ahead) (defBody s_lengths_ahead) (defScope s_lengths_ahead) .none kV3 dc3 pm3 an3 cd3 ct3), sl3⟩) (c3 : PySem.W.codeIn K cd3 "lengths_ahead" = true) (k3 : PySem.W.keepIn K (.ref f_lengths_ahead) = true)
    {od4 an4 : Option Addr} {sl4 : Array (Option Value)} {oc4 kV4 dc4 pm4 cd4 ct4 : Value} {f_goes_on_ahead : Addr}
    (a4 : PySem.W.nsIn K mainGlobals "goes_on_ahead" = some (some (.ref f_goes_on_ahead))) (l4 : K.lookup f_goes_on_ahead = some ⟨oc4, od4, .func (PySem.W.fnOf "goes_on_ahead" "goes_on_ahead" (defArgs s_goes_on_ahead) (defBody s_goes_on_ahead) (defScope s_goes_on_ahead) .none kV4 dc4 pm4 an4 cd4 ct4), sl4⟩) (c4 : PySem.W.codeIn K cd4 "goes_on_ahead" = true) (k4 : PySem.W.keepIn K (.ref f_goes_on_ahead) = true)
    {od5 an5 : Option Addr} {sl5 : Array (Option Value)} {oc5 kV5 dc5 pm5 cd5 ct5 : Value} {f_full_twins : Addr}
    (a5 : PySem.W.nsIn K mainGlobals "full_twins" = some (some (.ref f_full_twins))) (l5 : K.lookup f_full_twins = some ⟨oc5, od5, .func (PySem.W.fnOf "full_twins" "full_twins" (defArgs s_full_twins) (defBody s_full_twins) (defScope s_full_twins) .none kV5 dc5 pm5 an5 cd5 ct5), sl5⟩) (c5 : PySem.W.codeIn K cd5 "full_twins" = true) (k5 : PySem.W.keepIn K (.ref f_full_twins) = true)
    {od6 an6 : Option Addr} {sl6 : Array (Option Value)} {oc6 kV6 dc6 pm6 cd6 ct6 : Value} {f_longest_twin : Addr}
    (a6 : PySem.W.nsIn K mainGlobals "longest_twin" = some (some (.ref f_longest_twin))) (l6 : K.lookup f_longest_twin = some ⟨oc6, od6, .func (PySem.W.fnOf "longest_twin" "longest_twin" (defArgs s_longest_twin) (defBody s_longest_twin) (defScope s_longest_twin) .none kV6 dc6 pm6 an6 cd6 ct6), sl6⟩) (c6 : PySem.W.codeIn K cd6 "longest_twin" = true) (k6 : PySem.W.keepIn K (.ref f_longest_twin) = true)
    {od7 an7 : Option Addr} {sl7 : Array (Option Value)} {oc7 kV7 dc7 pm7 cd7 ct7 : Value} {f_law_next : Addr}
    (a7 : PySem.W.nsIn K mainGlobals "_law_next" = some (some (.ref f_law_next))) (l7 : K.lookup f_law_next = some ⟨oc7, od7, .func (PySem.W.fnOf "_law_next" "_law_next" (defArgs s_law_next) (defBody s_law_next) (defScope s_law_next) .none kV7 dc7 pm7 an7 cd7 ct7), sl7⟩) (c7 : PySem.W.codeIn K cd7 "_law_next" = true) (k7 : PySem.W.keepIn K (.ref f_law_next) = true)
    {od8 an8 : Option Addr} {sl8 : Array (Option Value)} {oc8 kV8 dc8 pm8 cd8 ct8 : Value} {f_law_signs : Addr}
    (a8 : PySem.W.nsIn K mainGlobals "_law_signs" = some (some (.ref f_law_signs))) (l8 : K.lookup f_law_signs = some ⟨oc8, od8, .func (PySem.W.fnOf "_law_signs" "_law_signs" (defArgs s_law_signs) (defBody s_law_signs) (defScope s_law_signs) .none kV8 dc8 pm8 an8 cd8 ct8), sl8⟩) (c8 : PySem.W.codeIn K cd8 "_law_signs" = true) (k8 : PySem.W.keepIn K (.ref f_law_signs) = true)
    {od9 an9 : Option Addr} {sl9 : Array (Option Value)} {oc9 kV9 dc9 pm9 cd9 ct9 : Value} {f_law_same : Addr}
    (a9 : PySem.W.nsIn K mainGlobals "_law_same" = some (some (.ref f_law_same))) (l9 : K.lookup f_law_same = some ⟨oc9, od9, .func (PySem.W.fnOf "_law_same" "_law_same" (defArgs s_law_same) (defBody s_law_same) (defScope s_law_same) .none kV9 dc9 pm9 an9 cd9 ct9), sl9⟩) (c9 : PySem.W.codeIn K cd9 "_law_same" = true) (k9 : PySem.W.keepIn K (.ref f_law_same) = true)
    {od10 an10 : Option Addr} {sl10 : Array (Option Value)} {oc10 kV10 dc10 pm10 cd10 ct10 : Value} {f_law_drawn_row : Addr}
    (a10 : PySem.W.nsIn K mainGlobals "_law_drawn_row" = some (some (.ref f_law_drawn_row))) (l10 : K.lookup f_law_drawn_row = some ⟨oc10, od10, .func (PySem.W.fnOf "_law_drawn_row" "_law_drawn_row" (defArgs s_law_drawn_row) (defBody s_law_drawn_row) (defScope s_law_drawn_row) .none kV10 dc10 pm10 an10 cd10 ct10), sl10⟩) (c10 : PySem.W.codeIn K cd10 "_law_drawn_row" = true) (k10 : PySem.W.keepIn K (.ref f_law_drawn_row) = true)
    {od11 an11 : Option Addr} {sl11 : Array (Option Value)} {oc11 kV11 dc11 pm11 cd11 ct11 : Value} {f_law_runs : Addr}
    (a11 : PySem.W.nsIn K mainGlobals "_law_runs" = some (some (.ref f_law_runs))) (l11 : K.lookup f_law_runs = some ⟨oc11, od11, .func (PySem.W.fnOf "_law_runs" "_law_runs" (defArgs s_law_runs) (defBody s_law_runs) (defScope s_law_runs) .none kV11 dc11 pm11 an11 cd11 ct11), sl11⟩) (c11 : PySem.W.codeIn K cd11 "_law_runs" = true) (k11 : PySem.W.keepIn K (.ref f_law_runs) = true)
    {od12 an12 : Option Addr} {sl12 : Array (Option Value)} {oc12 kV12 dc12 pm12 cd12 ct12 : Value} {f_law_fits : Addr}
    (a12 : PySem.W.nsIn K mainGlobals "_law_fits" = some (some (.ref f_law_fits))) (l12 : K.lookup f_law_fits = some ⟨oc12, od12, .func (PySem.W.fnOf "_law_fits" "_law_fits" (defArgs s_law_fits) (defBody s_law_fits) (defScope s_law_fits) .none kV12 dc12 pm12 an12 cd12 ct12), sl12⟩) (c12 : PySem.W.codeIn K cd12 "_law_fits" = true) (k12 : PySem.W.keepIn K (.ref f_law_fits) = true)
    {od13 an13 : Option Addr} {sl13 : Array (Option Value)} {oc13 kV13 dc13 pm13 cd13 ct13 : Value} {f_law_refused : Addr}
    (a13 : PySem.W.nsIn K mainGlobals "_law_refused" = some (some (.ref f_law_refused))) (l13 : K.lookup f_law_refused = some ⟨oc13, od13, .func (PySem.W.fnOf "_law_refused" "_law_refused" (defArgs s_law_refused) (defBody s_law_refused) (defScope s_law_refused) .none kV13 dc13 pm13 an13 cd13 ct13), sl13⟩) (c13 : PySem.W.codeIn K cd13 "_law_refused" = true) (k13 : PySem.W.keepIn K (.ref f_law_refused) = true)
    {od14 an14 : Option Addr} {sl14 : Array (Option Value)} {oc14 kV14 dc14 pm14 cd14 ct14 : Value} {f_law : Addr}
    (a14 : PySem.W.nsIn K mainGlobals "law" = some (some (.ref f_law))) (l14 : K.lookup f_law = some ⟨oc14, od14, .func (PySem.W.fnOf "law" "law" (defArgs s_law) (defBody s_law) (defScope s_law) .none kV14 dc14 pm14 an14 cd14 ct14), sl14⟩) (c14 : PySem.W.codeIn K cd14 "law" = true) (k14 : PySem.W.keepIn K (.ref f_law) = true)
    (xj_NoSign : excInI K C_NoSign f_NoSign___init__ = true)
    (zlen : PySem.W.nsIn K mainGlobals "len" = some none)
    (zord : PySem.W.nsIn K mainGlobals "ord" = some none)
    (zall : PySem.W.nsIn K mainGlobals "all" = some none)
    (zisinstance : PySem.W.nsIn K mainGlobals "isinstance" = some none)
    (zint : PySem.W.nsIn K mainGlobals "int" = some none)
    (zbool : PySem.W.nsIn K mainGlobals "bool" = some none)
    (zstr : PySem.W.nsIn K mainGlobals "str" = some none)
    (zlist : PySem.W.nsIn K mainGlobals "list" = some none)
    (ztuple : PySem.W.nsIn K mainGlobals "tuple" = some none)
    (zdict : PySem.W.nsIn K mainGlobals "dict" = some none)
    (zzip : PySem.W.nsIn K mainGlobals "zip" = some none)
    (zenumerate : PySem.W.nsIn K mainGlobals "enumerate" = some none)
    (zrange : PySem.W.nsIn K mainGlobals "range" = some none)
    (zsorted : PySem.W.nsIn K mainGlobals "sorted" = some none)
    (zmax : PySem.W.nsIn K mainGlobals "max" = some none)
    (zset : PySem.W.nsIn K mainGlobals "set" = some none)
    : ∃ fd : FuncData, (∀ (s : Shared) (v : Value), BindsTo s fd ⟨[v], []⟩ [("_law_script", v)]) ∧ ∀ base : Heap, K.In base → base.Ns mainGlobals mg → BMn base mg → FnOk l.prog w K mg base CX0 7 fa fd ["_law_script"] (spLawT K NM LN LQ) := by
  have e := hfa.symm.trans (PySem.W.mg_of X G a14)
  cases e
  have T : ∀ base : Heap, BMn base mg → Txt K mg (⟨t_FIRST_SIGN, t_LAST_SIGN, a_NO_SIGNS, C_WeaveError, C_NoSign⟩ : Pm) base := fun base bb => ⟨PySem.W.mg_none_of X G zlen, PySem.W.mg_none_of X G zord, PySem.W.mg_none_of X G zall, PySem.W.mg_none_of X G zisinstance, PySem.W.mg_none_of X G zint, PySem.W.mg_none_of X G zbool, PySem.W.mg_none_of X G zstr, PySem.W.mg_none_of X G zlist, PySem.W.mg_none_of X G ztuple, PySem.W.mg_none_of X G zdict, PySem.W.mg_none_of X G zzip, PySem.W.mg_none_of X G zenumerate, PySem.W.mg_none_of X G zrange, PySem.W.mg_none_of X G zsorted, PySem.W.mg_none_of X G zmax, PySem.W.mg_none_of X G zset, PySem.W.mg_of X G g_FIRST_SIGN, PySem.W.mg_of X G g_LAST_SIGN, PySem.W.mg_of X G g_NO_SIGNS, fun H => .inr ⟨_, _, _, l_NO_SIGNS, rfl, rfl, (by show 3 ≤ sizeLine; decide), .cons ⟨_, rfl⟩ (.cons ⟨_, rfl⟩ (.cons ⟨_, rfl⟩ (.nil)))⟩, PySem.W.mg_of X G aC_WeaveError, PySem.W.mg_of X G aC_NoSign, ⟨b1_NoSign, b2_NoSign, b3_NoSign⟩, ⟨y0_NoSign, y1_NoSign, y2_NoSign, y3_NoSign, y4_NoSign, y5_NoSign, y6_NoSign, y7_NoSign⟩, ⟨u1_NoSign, u2_NoSign, u3_NoSign⟩, ⟨_, xclsI_of xj_NoSign⟩, nA_NoSign_row, nA_NoSign_place, ⟨w1_WeaveError, w2_WeaveError, w3_WeaveError⟩, ks_NoSign_NoSign, bb, lk_longest_twin, fun f hf => (by have e := (PySem.W.mg_of X G a6).symm.trans hf; cases e; exact a6)⟩
  have F_NoSign___init__ := fun_mk (st := s_NoSign___init__) l0 c0 k0
  have D_NoSign___init__ : Dm K "__init__" "NoSign.__init__" s_NoSign___init__ ["self", "row", "place"] _ _ := ⟨F_NoSign___init__, F_NoSign___init__.binds (ps := ["self", "row", "place"]) fun _ _ _ _ _ _ us hl => by obtain ⟨_, _, _, rfl⟩ := GP.len3 hl; exact rfl⟩
  have F_is_sign := fun_mk (st := s_is_sign) l1 c1 k1
  have D_is_sign : Dn K mg "is_sign" s_is_sign ["sign"] _ _ := ⟨F_is_sign, F_is_sign.binds (ps := ["sign"]) fun _ _ _ _ _ _ us hl => by obtain ⟨_, rfl⟩ := GP.len1 hl; exact rfl, PySem.W.mg_of X G a1⟩
  have F_check_signs_alone := fun_mk (st := s_check_signs_alone) l2 c2 k2
  have D_check_signs_alone : Dn K mg "check_signs_alone" s_check_signs_alone ["row"] _ _ := ⟨F_check_signs_alone, F_check_signs_alone.binds (ps := ["row"]) fun _ _ _ _ _ _ us hl => by obtain ⟨_, rfl⟩ := GP.len1 hl; exact rfl, PySem.W.mg_of X G a2⟩
  have F_lengths_ahead := fun_mk (st := s_lengths_ahead) l3 c3 k3
  have D_lengths_ahead : Dn K mg "lengths_ahead" s_lengths_ahead ["row", "i", "behind"] _ _ := ⟨F_lengths_ahead, F_lengths_ahead.binds (ps := ["row", "i", "behind"]) fun _ _ _ _ _ _ us hl => by obtain ⟨_, _, _, rfl⟩ := GP.len3 hl; exact rfl, PySem.W.mg_of X G a3⟩
  have F_goes_on_ahead := fun_mk (st := s_goes_on_ahead) l4 c4 k4
  have D_goes_on_ahead : Dn K mg "goes_on_ahead" s_goes_on_ahead ["row", "i", "j"] _ _ := ⟨F_goes_on_ahead, F_goes_on_ahead.binds (ps := ["row", "i", "j"]) fun _ _ _ _ _ _ us hl => by obtain ⟨_, _, _, rfl⟩ := GP.len3 hl; exact rfl, PySem.W.mg_of X G a4⟩
  have F_full_twins := fun_mk (st := s_full_twins) l5 c5 k5
  have D_full_twins : Dn K mg "full_twins" s_full_twins ["row"] _ _ := ⟨F_full_twins, F_full_twins.binds (ps := ["row"]) fun _ _ _ _ _ _ us hl => by obtain ⟨_, rfl⟩ := GP.len1 hl; exact rfl, PySem.W.mg_of X G a5⟩
  have F_longest_twin := fun_mk (st := s_longest_twin) l6 c6 k6
  have D_longest_twin : Dn K mg "longest_twin" s_longest_twin ["row"] _ _ := ⟨F_longest_twin, F_longest_twin.binds (ps := ["row"]) fun _ _ _ _ _ _ us hl => by obtain ⟨_, rfl⟩ := GP.len1 hl; exact rfl, PySem.W.mg_of X G a6⟩
  have F_law_next := fun_mk (st := s_law_next) l7 c7 k7
  have D_law_next : Dn K mg "_law_next" s_law_next ["_law_script", "_law_at"] _ _ := ⟨F_law_next, F_law_next.binds (ps := ["_law_script", "_law_at"]) fun _ _ _ _ _ _ us hl => by obtain ⟨_, _, rfl⟩ := GP.len2 hl; exact rfl, PySem.W.mg_of X G a7⟩
  have F_law_signs := fun_mk (st := s_law_signs) l8 c8 k8
  have D_law_signs : Dn K mg "_law_signs" s_law_signs ["_law_script", "_law_at", "_law_many"] _ _ := ⟨F_law_signs, F_law_signs.binds (ps := ["_law_script", "_law_at", "_law_many"]) fun _ _ _ _ _ _ us hl => by obtain ⟨_, _, _, rfl⟩ := GP.len3 hl; exact rfl, PySem.W.mg_of X G a8⟩
  have F_law_same := fun_mk (st := s_law_same) l9 c9 k9
  have D_law_same : Dn K mg "_law_same" s_law_same ["_law_found", "_law_due"] _ _ := ⟨F_law_same, F_law_same.binds (ps := ["_law_found", "_law_due"]) fun _ _ _ _ _ _ us hl => by obtain ⟨_, _, rfl⟩ := GP.len2 hl; exact rfl, PySem.W.mg_of X G a9⟩
  have F_law_drawn_row := fun_mk (st := s_law_drawn_row) l10 c10 k10
  have D_law_drawn_row : Dn K mg "_law_drawn_row" s_law_drawn_row ["_law_script", "_law_at", "_law_most"] _ _ := ⟨F_law_drawn_row, F_law_drawn_row.binds (ps := ["_law_script", "_law_at", "_law_most"]) fun _ _ _ _ _ _ us hl => by obtain ⟨_, _, _, rfl⟩ := GP.len3 hl; exact rfl, PySem.W.mg_of X G a10⟩
  have F_law_runs := fun_mk (st := s_law_runs) l11 c11 k11
  have D_law_runs : Dn K mg "_law_runs" s_law_runs ["_law_row"] _ _ := ⟨F_law_runs, F_law_runs.binds (ps := ["_law_row"]) fun _ _ _ _ _ _ us hl => by obtain ⟨_, rfl⟩ := GP.len1 hl; exact rfl, PySem.W.mg_of X G a11⟩
  have F_law_fits := fun_mk (st := s_law_fits) l12 c12 k12
  have D_law_fits : Dn K mg "_law_fits" s_law_fits ["_law_row"] _ _ := ⟨F_law_fits, F_law_fits.binds (ps := ["_law_row"]) fun _ _ _ _ _ _ us hl => by obtain ⟨_, rfl⟩ := GP.len1 hl; exact rfl, PySem.W.mg_of X G a12⟩
  have F_law_refused := fun_mk (st := s_law_refused) l13 c13 k13
  have D_law_refused : Dn K mg "_law_refused" s_law_refused ["_law_row", "_law_place"] _ _ := ⟨F_law_refused, F_law_refused.binds (ps := ["_law_row", "_law_place"]) fun _ _ _ _ _ _ us hl => by obtain ⟨_, _, rfl⟩ := GP.len2 hl; exact rfl, PySem.W.mg_of X G a13⟩
  have F_law := fun_mk (st := s_law) l14 c14 k14
  have D_law : Dn K mg "law" s_law ["_law_script"] _ _ := ⟨F_law, F_law.binds (ps := ["_law_script"]) fun _ _ _ _ _ _ us hl => by obtain ⟨_, rfl⟩ := GP.len1 hl; exact rfl, PySem.W.mg_of X G a14⟩
  exact ⟨PySem.W.fnOf "law" "law" (defArgs s_law) (defBody s_law) (defScope s_law) .none kV14 dc14 pm14 an14 cd14 ct14, fun s v => .of_eq rfl, fun base _ _ bb => law_ok (p := (⟨t_FIRST_SIGN, t_LAST_SIGN, a_NO_SIGNS, C_WeaveError, C_NoSign⟩ : Pm)) (T base bb) D_NoSign___init__ D_is_sign D_check_signs_alone D_lengths_ahead D_goes_on_ahead D_full_twins D_longest_twin D_law_next D_law_signs D_law_same D_law_drawn_row D_law_runs D_law_fits D_law_refused D_law ⟨xclsI_of xj_NoSign, i0, kc_NoSign⟩⟩
theorem walk {l : PySem.W.OpenLaw} {q : Program} {loose : List Str} {XP : (Str → Option Value) → Heap → Prop} {YP : World → Heap → Prop} {d : DefRec} {K : Params → PySem.W.Frag} (hn : l.most = some 63) (hdf : d.params.defaults = [])
    (hY : ∀ (w : World) (h : Heap), YP w h → (K w.params).In h) (hYT : ∀ (w : World) (h : Heap), YP w h → h.get? (lamTab (K w.params) NM) = some (PySem.W.tabObj #[])) (hL : ∀ w : World, lamOk (K w.params) NM = true)
    (F : ∀ (w : World) (mg : Str → Option Value) (fa : Addr) (h : Heap), (K w.params).In h → h.Ns mainGlobals mg → mg d.name = some (.ref fa) →
      ∃ fd : FuncData, (∀ (s : Shared) (u : Value), BindsTo s fd ⟨[u], []⟩ [("_law_script", u)]) ∧ ∀ base : Heap, (K w.params).In base → base.Ns mainGlobals mg → BMn base mg → FnOk l.prog w (K w.params) mg base CX0 7 fa fd ["_law_script"] (spLawT (K w.params) NM LN LQ)) :
    PySem.W.WalkO q loose XP YP l.row.toRowW d [] (fun f vs => PySem.call f vs) :=
  L2.walk_ofT (n := 63) (k := 7) (x := "_law_script") (nm := "longest_twin") (ln := LN) (lq := LQ) (CX := fun _ => CX0) (sp := fun w => (spLawT (K w.params) NM LN LQ)) hn (by decide) hdf ⟨rfl, by decide, by decide⟩ hY hYT hL F (fun _ _ a ns hl hT hS => ⟨a, ns, rfl, hS, hl, .inl hT, fun _ hT' => ⟨rfl, hT'⟩⟩) fun _ _ _ _ _ z => z
end G61
theorem PySem.W.Fast.tw9493006512197256958 : True := trivial
theorem PySem.W.Fast.tw18290225899432740333 : True := trivial
theorem PySem.W.Fast.tw8353360595746703385 : True := trivial
theorem PySem.W.Fast.tw7105063773954503571 : True := trivial
theorem PySem.W.Fast.tw7685074353712027808 : True := trivial
theorem PySem.W.Fast.tw2195407501967493179 : True := trivial
theorem PySem.W.Fast.tw12156548660048040047 : True := trivial
theorem PySem.W.Fast.tw16768057760361445310 : True := trivial
theorem PySem.W.Fast.tw7977413300002930644 : True := trivial
theorem PySem.W.Fast.tw4483391932142141652 : True := trivial
theorem PySem.W.Fast.tw16593426457912028479 : True := trivial
theorem PySem.W.Fast.tw10783471772031036190 : True := trivial
theorem PySem.W.Fast.tw1137631588876326317 : True := trivial
theorem PySem.W.Fast.tw10260040594165090872 : True := trivial
theorem PySem.W.Fast.tw4113991708124291325 : True := trivial
theorem PySem.W.Fast.tw5130663183272040051 : True := trivial
theorem PySem.W.Fast.tw8359897545075811456 : True := trivial
theorem PySem.W.Fast.tw5807019105084358661 : True := trivial
theorem PySem.W.Fast.tw15060289931441145882 : True := trivial
theorem PySem.W.Fast.tw18028080898354652618 : True := trivial
theorem PySem.W.Fast.tw3721717051102409575 : True := trivial
theorem PySem.W.Fast.tw17568187884548348831 : True := trivial
theorem PySem.W.Fast.tw2514924767954580728 : True := trivial
theorem PySem.W.Fast.tw10730058038334339961 : True := trivial
theorem PySem.W.Fast.tw7129978777792465917 : True := trivial
theorem PySem.W.Fast.tw10711019518157730440 : True := trivial
theorem PySem.W.Fast.tw7042273182963217646 : True := trivial
theorem PySem.W.Fast.tw16502211964762776948 : True := trivial
theorem PySem.W.Fast.tw10617173832300963336 : True := trivial
theorem PySem.W.Fast.tw4876745211376745854 : True := trivial
theorem PySem.W.Fast.tw7572021064938936270 : True := trivial
theorem PySem.W.Fast.tw4158675752008401799 : True := trivial
theorem PySem.W.Fast.tw13345965176935704683 : True := trivial
theorem PySem.W.Fast.tw10436509532577920522 : True := trivial
theorem PySem.W.Fast.tw9453471946308412003 : True := trivial
theorem PySem.W.Fast.tw10376183158328835120 : True := trivial
theorem PySem.W.Fast.tw10172105068517940206 : True := trivial
theorem PySem.W.Fast.tw17937369666414998771 : True := trivial
theorem PySem.W.Fast.tw2038722797265977192 : True := trivial
theorem PySem.W.Fast.tw11122832755049876841 : True := trivial
theorem PySem.W.Fast.tw13977597215097401800 : True := trivial
theorem PySem.W.Fast.tw8127626758537549750 : True := trivial
theorem PySem.W.Fast.tw8418901811129400221 : True := trivial
theorem PySem.W.Fast.tw16041848427940060734 : True := trivial
theorem PySem.W.Fast.tw9262092898827055896 : True := trivial
theorem PySem.W.Fast.tw16471633929103612131 : True := trivial
theorem PySem.W.Fast.tw475904980781116901 : True := trivial
theorem PySem.W.Fast.tw7845570268844990720 : True := trivial
theorem PySem.W.Fast.tw1229915627208132329 : True := trivial
theorem PySem.W.Fast.tw3883167815716055258 : True := trivial
theorem PySem.W.Fast.tw4065469108802876632 : True := trivial
theorem PySem.W.Fast.tw17368069794564513397 : True := trivial
theorem PySem.W.Fast.tw13557447916370287002 : True := trivial
theorem PySem.W.Fast.tw4961738809608070190 : True := trivial
theorem PySem.W.Fast.tw5970111349593961605 : True := trivial
theorem PySem.W.Fast.tw17333701154243435129 : True := trivial
theorem PySem.W.Fast.tw16018935884174296941 : True := trivial
theorem PySem.W.Fast.tw5856630377268869635 : True := trivial
theorem PySem.W.Fast.tw13030292139009922475 : True := trivial
theorem PySem.W.Fast.tw16368091778311666354 : True := trivial
theorem PySem.W.Fast.tw1798751544572204406 : True := trivial
theorem PySem.W.Fast.tw529323205258836572 : True := trivial
theorem PySem.W.Fast.tw11456160488086544302 : True := trivial
theorem PySem.W.Fast.tw10753617302254883387 : True := trivial
theorem PySem.W.Fast.tw15397461447235381837 : True := trivial
theorem PySem.W.Fast.tw12732580306915375839 : True := trivial
theorem PySem.W.Fast.tw13707303094104834927 : True := trivial
theorem PySem.W.Fast.tw12687036128542431240 : True := trivial
theorem PySem.W.Fast.tw288432825170963499 : True := trivial
theorem PySem.W.Fast.tw13911870427585684603 : True := trivial
theorem PySem.W.Fast.tw16341747530614593015 : True := trivial
theorem PySem.W.Fast.tw18151448055686638054 : True := trivial
theorem PySem.W.Fast.tw8463966129488673234 : True := trivial
theorem PySem.W.Fast.tw6398439666328191173 : True := trivial
theorem PySem.W.Fast.tw2031459511045158582 : True := trivial
theorem PySem.W.Fast.tw4422940749474217648 : True := trivial
theorem PySem.W.Fast.tw12982355667455523500 : True := trivial
theorem PySem.W.Fast.tw5332223765990171784 : True := trivial
theorem PySem.W.Fast.tw17728138677000065218 : True := trivial
theorem PySem.W.Fast.tw2312690020863918651 : True := trivial
theorem PySem.W.Fast.tw14911740906562895215 : True := trivial
theorem PySem.W.Fast.tw16484806430723809467 : True := trivial
theorem PySem.W.Fast.tw14127658823569293302 : True := trivial
theorem PySem.W.Fast.tw2730509561615703614 : True := trivial
theorem PySem.W.Fast.tw14786531780755483113 : True := trivial
theorem PySem.W.Fast.tw2115279448279346593 : True := trivial
theorem PySem.W.Fast.tw13494438926583918327 : True := trivial
theorem PySem.W.Fast.tw13600687011046799299 : True := trivial
theorem PySem.W.Fast.tw13005580140439895281 : True := trivial
theorem PySem.W.Fast.tw5207988552348539250 : True := trivial
theorem PySem.W.Fast.tw2924249672625796162 : True := trivial
theorem PySem.W.Fast.tw13512850578330211004 : True := trivial
theorem PySem.W.Fast.tw3438719355191364722 : True := trivial
theorem PySem.W.Fast.tw595366690450508956 : True := trivial
theorem PySem.W.Fast.tw220346890440060742 : True := trivial
theorem PySem.W.Fast.tw18395574517890728901 : True := trivial
theorem PySem.W.Fast.tw15011038577926096495 : True := trivial
theorem PySem.W.Fast.tw16964529438112387313 : True := trivial
theorem PySem.W.Fast.tw1241831391859098272 : True := trivial
theorem PySem.W.Fast.tw16575865452203450724 : True := trivial
theorem PySem.W.Fast.tw15075807263442979220 : True := trivial
theorem PySem.W.Fast.tw16406499251295652040 : True := trivial
theorem PySem.W.Fast.tw10376952901392779721 : True := trivial
theorem PySem.W.Fast.tw8294655398638825438 : True := trivial
theorem PySem.W.Fast.tw8828460219464660166 : True := trivial
theorem PySem.W.Fast.tw8795141580947662524 : True := trivial
theorem PySem.W.Fast.tw218858146407798063 : True := trivial
theorem PySem.W.Fast.tw16455075467020481582 : True := trivial
theorem PySem.W.Fast.tw2243711564170717609 : True := trivial
theorem PySem.W.Fast.tw4762798276570009742 : True := trivial
theorem PySem.W.Fast.tw10954787626458545974 : True := trivial
theorem PySem.W.Fast.tw17767077729115080031 : True := trivial
theorem PySem.W.Fast.tw5919161009571011097 : True := trivial
theorem PySem.W.Fast.tw14852649688849974135 : True := trivial
theorem PySem.W.Fast.tw16864916447957931348 : True := trivial
theorem PySem.W.Fast.tw10048831923102841971 : True := trivial
theorem PySem.W.Fast.tw13482588777202533652 : True := trivial
theorem PySem.W.Fast.tw16234427580673794859 : True := trivial
theorem PySem.W.Fast.tw11836885347048975867 : True := trivial
theorem PySem.W.Fast.tw17145667736313462551 : True := trivial
theorem PySem.W.Fast.tw7257256301046894423 : True := trivial
theorem PySem.W.Fast.tw3854331246816167853 : True := trivial
theorem PySem.W.Fast.tw17084642165616187364 : True := trivial
theorem PySem.W.Fast.tw1344379087841770708 : True := trivial
theorem PySem.W.Fast.tw12682730717323927790 : True := trivial
theorem PySem.W.Fast.tw15651262980218231032 : True := trivial
theorem PySem.W.Fast.tw16342916697314007515 : True := trivial
theorem PySem.W.Fast.tw9628929495664709602 : True := trivial
theorem PySem.W.Fast.tw8837511958341277534 : True := trivial
theorem PySem.W.Fast.tw15752928762951297957 : True := trivial
theorem PySem.W.Fast.tw3197600053376190379 : True := trivial
theorem PySem.W.Fast.tw4356339273894321446 : True := trivial
theorem PySem.W.Fast.tw13064744037968674519 : True := trivial
open PySem PySem.W PyProof.Rows
set_option maxRecDepth 100000 in
set_option maxHeartbeats 0 in
theorem PySem.Challenge.cw_gapweave_k61_longest_twin_holds : PySem.Challenge.rw_gapweave_k61_longest_twin.Holds := by
  w_on; o_law; k_head; (case hw => w_witness2)
  k_fill
  refine G61.walk (l := PySem.Challenge.rw_gapweave_k61_longest_twin) rfl rfl (fun w h Y => PySem.W.km_in_of Y) (fun w h Y => PySem.W.km_tabs_of Y _ (List.mem_singleton.mpr (by kernel_rfl))) (fun w => by kernel_rfl) ?F
  case F =>
    intro w mg fa h KX G hmg
    refine' G61.all_mk KX G hmg ?lk_longest_twin ?g_FIRST_SIGN ?g_LAST_SIGN ?g_NO_SIGNS ?l_NO_SIGNS ?aC_WeaveError ?aC_NoSign ?b1_NoSign ?b2_NoSign ?b3_NoSign ?y0_NoSign ?y1_NoSign ?y2_NoSign ?y3_NoSign ?y4_NoSign ?y5_NoSign ?y6_NoSign ?y7_NoSign ?u1_NoSign ?u2_NoSign ?u3_NoSign ?kc_NoSign ?nA_NoSign_row ?nA_NoSign_place ?w1_WeaveError ?w2_WeaveError ?w3_WeaveError ?ks_NoSign_NoSign ?a0 ?i0 ?l0 ?c0 ?k0 ?a1 ?l1 ?c1 ?k1 ?a2 ?l2 ?c2 ?k2 ?a3 ?l3 ?c3 ?k3 ?a4 ?l4 ?c4 ?k4 ?a5 ?l5 ?c5 ?k5 ?a6 ?l6 ?c6 ?k6 ?a7 ?l7 ?c7 ?k7 ?a8 ?l8 ?c8 ?k8 ?a9 ?l9 ?c9 ?k9 ?a10 ?l10 ?c10 ?k10 ?a11 ?l11 ?c11 ?k11 ?a12 ?l12 ?c12 ?k12 ?a13 ?l13 ?c13 ?k13 ?a14 ?l14 ?c14 ?k14 ?xj_NoSign ?zlen ?zord ?zall ?zisinstance ?zint ?zbool ?zstr ?zlist ?ztuple ?zdict ?zzip ?zenumerate ?zrange ?zsorted ?zmax ?zset
    (case lk_longest_twin => kernel_rfl)
    (case g_FIRST_SIGN => k_is)
    (case g_LAST_SIGN => k_is)
    (case g_NO_SIGNS => k_is)
    (case l_NO_SIGNS => k_is)
    (case aC_WeaveError => k_is)
    (case aC_NoSign => k_is)
    (case b1_NoSign => k_is)
    (case b2_NoSign => k_is)
    (case b3_NoSign => k_is)
    (case y0_NoSign => k_is)
    (case y1_NoSign => k_is)
    (case y2_NoSign => k_is)
    (case y3_NoSign => k_is)
    (case y4_NoSign => k_is)
    (case y5_NoSign => k_is)
    (case y6_NoSign => k_is)
    (case y7_NoSign => k_is)
    (case u1_NoSign => k_is)
    (case u2_NoSign => kernel_rfl)
    (case u3_NoSign => k_is)
    (case kc_NoSign => k_is)
    (case nA_NoSign_row => k_is)
    (case nA_NoSign_place => k_is)
    (case w1_WeaveError => kernel_rfl)
    (case w2_WeaveError => kernel_rfl)
    (case w3_WeaveError => kernel_rfl)
    (case ks_NoSign_NoSign => k_is)
    (case a0 => k_is)
    (case i0 => k_is)
    (case l0 => k_is)
    (case c0 => k_is)
    (case k0 => k_is)
    (case a1 => k_is)
    (case l1 => k_is)
    (case c1 => k_is)
    (case k1 => k_is)
    (case a2 => k_is)
    (case l2 => k_is)
    (case c2 => k_is)
    (case k2 => k_is)
    (case a3 => k_is)
    (case l3 => k_is)
    (case c3 => k_is)
    (case k3 => k_is)
    (case a4 => k_is)
    (case l4 => k_is)
    (case c4 => k_is)
    (case k4 => k_is)
    (case a5 => k_is)
    (case l5 => k_is)
    (case c5 => k_is)
    (case k5 => k_is)
    (case a6 => k_is)
    (case l6 => k_is)
    (case c6 => k_is)
    (case k6 => k_is)
    (case a7 => k_is)
    (case l7 => k_is)
    (case c7 => k_is)
    (case k7 => k_is)
    (case a8 => k_is)
    (case l8 => k_is)
    (case c8 => k_is)
    (case k8 => k_is)
    (case a9 => k_is)
    (case l9 => k_is)
    (case c9 => k_is)
    (case k9 => k_is)
    (case a10 => k_is)
    (case l10 => k_is)
    (case c10 => k_is)
    (case k10 => k_is)
    (case a11 => k_is)
    (case l11 => k_is)
    (case c11 => k_is)
    (case k11 => k_is)
    (case a12 => k_is)
    (case l12 => k_is)
    (case c12 => k_is)
    (case k12 => k_is)
    (case a13 => k_is)
    (case l13 => k_is)
    (case c13 => k_is)
    (case k13 => k_is)
    (case a14 => k_is)
    (case l14 => k_is)
    (case c14 => k_is)
    (case k14 => k_is)
    (case xj_NoSign => kernel_rfl)
    (case zlen => k_is)
    (case zord => k_is)
    (case zall => k_is)
    (case zisinstance => k_is)
    (case zint => k_is)
    (case zbool => k_is)
    (case zstr => k_is)
    (case zlist => k_is)
    (case ztuple => k_is)
    (case zdict => k_is)
    (case zzip => k_is)
    (case zenumerate => k_is)
    (case zrange => k_is)
    (case zsorted => k_is)
    (case zmax => k_is)
    (case zset => k_is)

