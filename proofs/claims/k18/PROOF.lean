import PyProof.Rows.All
import Wide.All
import OpenK.AllK
import Wide.FinOn
import Lean
import PyProof.EqAt
import PyProof.EqKinds
import PyProof.TupleCall
import PyProof.NeKinds
import PyProof.EnumStmt
import PyProof.EnumMake
import PyProof.ZipIter
import KE.KTryDeep
import KE.KIsAll
import PyProof.NsDelKeeps
import PyProof.RulesAs
import PyProof.ExcArgsOwn
import KE.KDictSum
import KE.KRevIter
import PySem.Challenge.RW_chancehouse_k18_a_house_under_a_mix
-- CHANGE: your row's module here, as the last of these rows
set_option Elab.async false
set_option linter.all false
set_option maxRecDepth 100000
/-! THE HAND LAYER, for ints, bools, texts, own classes, LISTS and tuples (index, slices, in, append, pop ..), calls, loops. Paste it whole ahead of your own text; what your proof does not reach may be deleted. -/
namespace L2
open PySem PySem.Spec PyProof.Rows

/-- a key: an int or a str -/
noncomputable abbrev Key := Sum Int Str
noncomputable def keyIs : Key → Value → Bool
  | .inl k, v => Value.isInt k v
  | .inr x, v => Value.isStrOf x v
noncomputable def keyH (w : World) : Key → Int
  | .inl k => hashInt k
  | .inr x => hashStr w x
theorem keyIs_shape : ∀ {k : Key} {v : Value}, keyIs k v = true → (∃ i t, k = Sum.inl i ∧ v = Value.int i t) ∨ (∃ x t, k = Sum.inr x ∧ v = Value.str x t)
  | .inl i, v, h => by
    obtain ⟨t, e⟩ := Value.isInt_shape (k := i) (v := v) h
    exact .inl ⟨i, t, rfl, e⟩
  | .inr x, v, h => by
    obtain ⟨t, e⟩ := Value.isStrOf_shape (x := x) (v := v) h
    exact .inr ⟨x, t, rfl, e⟩
theorem keyIs_int (i : Int) (t : Tok) : keyIs (.inl i) (.int i t) = true := by simp [keyIs, Value.isInt]
theorem keyIs_str (x : Str) (t : Tok) : keyIs (.inr x) (.str x t) = true := by simp [keyIs, Value.isStrOf]
theorem key_ll (a b : Int) : decide ((Sum.inl a : Key) = Sum.inl b) = (a == b) := by
  by_cases e : a = b
  · subst e; simp
  · have h : ¬ (Sum.inl a : Key) = Sum.inl b := fun q => e (Sum.inl.inj q)
    rw [decide_eq_false h]
    exact (beq_eq_false_iff_ne.mpr e).symm
theorem key_rr (a b : Str) : decide ((Sum.inr a : Key) = Sum.inr b) = decide (a = b) := by
  by_cases e : a = b
  · subst e; simp
  · have h : ¬ (Sum.inr a : Key) = Sum.inr b := fun q => e (Sum.inr.inj q)
    rw [decide_eq_false h, decide_eq_false e]
theorem key_lr (a : Int) (b : Str) : decide ((Sum.inl a : Key) = Sum.inr b) = false := decide_eq_false (fun q => nomatch q)
theorem key_rl (a : Str) (b : Int) : decide ((Sum.inr a : Key) = Sum.inl b) = false := decide_eq_false (fun q => nomatch q)

noncomputable def mixKind (prog : Program) (w : World) : PySem.KeyKind prog w Key where
  is := keyIs
  hash := keyH w
  inj := fun v a b ha hb => by
    rcases keyIs_shape ha with ⟨i, t, rfl, rfl⟩ | ⟨x, t, rfl, rfl⟩
    · rcases keyIs_shape hb with ⟨j, u, rfl, e⟩ | ⟨y, u, rfl, e⟩
      · injection e with e1 _; rw [e1]
      · exact nomatch e
    · rcases keyIs_shape hb with ⟨j, u, rfl, e⟩ | ⟨y, u, rfl, e⟩
      · exact nomatch e
      · injection e with e1 _; rw [e1]
  byValue := fun k v h => by
    rcases keyIs_shape h with ⟨i, t, rfl, rfl⟩ | ⟨x, t, rfl, rfl⟩ <;> rfl
  pyHash := fun hv h => by
    rcases keyIs_shape hv with ⟨i, t, rfl, rfl⟩ | ⟨x, t, rfl, rfl⟩
    · exact wpAny_pyHash_int h
    · exact wpAny_pyHash_str h
  eqBool := fun hu hv h => by
    rcases keyIs_shape hu with ⟨i, t, rfl, rfl⟩ | ⟨x, t, rfl, rfl⟩
    · rcases keyIs_shape hv with ⟨j, u, rfl, rfl⟩ | ⟨y, u, rfl, rfl⟩
      · rw [key_ll] at h; exact wpAny_eqBool_int h
      · rw [key_lr] at h; exact SeqAt.EqAt.int_str i t y u _ _ _ _ h
    · rcases keyIs_shape hv with ⟨j, u, rfl, rfl⟩ | ⟨y, u, rfl, rfl⟩
      · rw [key_rl] at h; exact SeqAt.EqAt.str_int x t j u _ _ _ _ h
      · rw [key_rr] at h; exact wpAny_eqBool_str h
  «strs» := fun k x t v h => by
    rcases keyIs_shape h with ⟨i, u, rfl, e⟩ | ⟨y, u, rfl, e⟩
    · exact nomatch e
    · injection e with e1 _
      subst e1
      cases v <;> rfl

theorem mixKind_int (prog : Program) (w : World) (i : Int) (t : Tok) : (mixKind prog w).is (.inl i) (.int i t) = true := keyIs_int i t
theorem mixKind_str (prog : Program) (w : World) (x : Str) (t : Tok) : (mixKind prog w).is (.inr x) (.str x t) = true := keyIs_str x t
end L2

namespace L2
open PySem PySem.Spec PyProof.Rows

/-- a value, without the heap -/
inductive V where
  | non | bl (b : Bool) | int (i : Int) | str (x : Str) | byt (b : Array UInt8) | flt (b : UInt64) | ref (a : Addr) | ty (n : String)
  deriving DecidableEq

noncomputable def RelV : V → Value → Prop
  | .non, u => u = Value.none
  | .bl b, u => u = Value.bool b
  | .int i, u => ∃ t, u = Value.int i t
  | .str x, u => ∃ t, u = Value.str x t
  | .byt b, u => ∃ t, u = Value.bytes b t
  | .flt b, u => ∃ t, u = Value.float b t
  | .ref a, u => u = Value.ref a
  | .ty n, u => u = Value.type n

noncomputable abbrev Vals : List V → List Value → Prop := Paired RelV
theorem Vals.length {xs : List V} {us : List Value} (r : Vals xs us) : xs.length = us.length := Paired.length r
theorem Vals.get : ∀ {xs : List V} {us : List Value} {i : Nat} {x : V}, Vals xs us → xs[i]? = some x → ∃ u, us[i]? = some u ∧ RelV x u
  | _, _, _, _, .nil, e => by simp at e
  | _, _, 0, _, .cons r _, e => by simp at e; subst e; exact ⟨_, rfl, r⟩
  | _, _, i + 1, x, .cons _ t, e => by
    obtain ⟨u, h1, h2⟩ := Vals.get (i := i) (x := x) t (by simpa using e)
    exact ⟨u, by simpa using h1, h2⟩
theorem Vals.set {x : V} {u : Value} (r : RelV x u) : ∀ {xs : List V} {us : List Value} (i : Nat), Vals xs us → Vals (xs.set i x) (us.set i u)
  | _, _, _, .nil => .nil
  | _, _, 0, .cons _ t => .cons r t
  | _, _, i + 1, .cons q t => .cons q (Vals.set r i t)
theorem Vals.append : ∀ {xs ys : List V} {us ws : List Value}, Vals xs us → Vals ys ws → Vals (xs ++ ys) (us ++ ws)
  | _, _, _, _, .nil, s => s
  | _, _, _, _, .cons r t, s => .cons r (Vals.append t s)
theorem Vals.take : ∀ {xs : List V} {us : List Value} (n : Nat), Vals xs us → Vals (xs.take n) (us.take n)
  | _, _, 0, _ => .nil
  | _, _, _ + 1, .nil => .nil
  | _, _, n + 1, .cons r t => .cons r (Vals.take n t)
theorem Vals.drop : ∀ {xs : List V} {us : List Value} (n : Nat), Vals xs us → Vals (xs.drop n) (us.drop n)
  | _, _, 0, r => r
  | _, _, _ + 1, .nil => .nil
  | _, _, n + 1, .cons _ t => Vals.drop n t
noncomputable def RelO : Option V → Option Value → Prop
  | some v, some u => RelV v u
  | none, none => True
  | _, _ => False
noncomputable def KV {κ : Type} : List (κ × V) → List (κ × Value) → Prop := Paired fun (p : κ × V) (q : κ × Value) => p.1 = q.1 ∧ RelV p.2 q.2

/-- a key of a dict (00_mix): an int or a text -/
noncomputable def kV : Key → V
  | .inl i => .int i
  | .inr x => .str x

/-- what stands at a tracked address -/
inductive HO where
  /-- a list -/
  | lst (xs : List V)
  /-- a tuple (never changes) -/
  | tup (xs : List V)
  /-- a dict whose keys are ints and texts; one whose keys are tuples of ints and texts (the empty one is both) -/
  | dK (kvs : List (Key × V)) | dT (kvs : List (List Key × V))
  /-- a set of ints: its members, its size -/
  | set (S : Int → Bool) (n : Nat)
  /-- an instance of the class at C, its dict at dx, its attributes -/
  | ins (C dx : Addr) (fs : List (Str × V))
  /-- the dict of the instance at x -/
  | own (x : Addr)
  /-- the dict of an exception -/
  | xd (fs : List (Str × V))
  /-- a bound method, f of x -/
  | met (f x : Addr)
  /-- a range object lo, lo + 1, .. below hi -/
  | rng (lo hi : Int)
  /-- a thing that is known to the object (the script; a dict while a loop walks it): read, never written while it is so -/
  | frz (o : Obj) (u : HO)
  /-- a code object's table -/
  | tbl (ps : Array Value)
  /-- any other thing, by what is true of its one object (a def of one's own: SetO a S n := HO.ext fun h => ..) -/
  | ext (φ : Heap → Prop)

noncomputable abbrev Hp := Addr → Option HO
noncomputable def upd (H : Hp) (a : Addr) (o : HO) : Hp := fun b => if b = a then some o else H b
theorem upd_same {H : Hp} {a : Addr} {o : HO} : upd H a o a = some o := by unfold upd; rw [if_pos rfl]
theorem upd_ne {H : Hp} {a b : Addr} {o : HO} (h : b ≠ a) : upd H a o b = H b := by unfold upd; rw [if_neg h]
/-- two objects of different content stand apart -/
theorem ne_of {H : Hp} {a b : Addr} {o u : HO} (h : H a = some o) (h' : H b = some u) (d : o ≠ u) : a ≠ b := by
  intro e; subst e; rw [h] at h'; exact d (Option.some.inj h')
theorem ne_of_none {H : Hp} {a b : Addr} {o : HO} (h : H a = some o) (h' : H b = none) : a ≠ b := by
  intro e; subst e; rw [h] at h'; cases h'

section
variable (P : Program) (w : World)
noncomputable def ObjOk (H : Hp) (h : Heap) (a : Addr) : HO → Prop
  | .lst xs => xs.length ≤ sizeLine ∧ ∃ (its : List Value) (n : Nat), Vals xs its ∧ h.get? a = some { cls := .type "list", data := .seq its.toArray n }
  | .tup xs => xs.length ≤ sizeLine ∧ ∃ its : List Value, Vals xs its ∧ IsTup h a its.toArray
  | .dK kvs => kvs.length ≤ sizeLine ∧ (a == sysModules) = false ∧ ∃ vs, KV kvs vs ∧ h.DictOf (mixKind P w) a vs
  | .dT kvs => kvs.length ≤ sizeLine ∧ (a == sysModules) = false ∧ ∃ xs : List (List Key × Addr × Value),
      Paired (fun (p : List Key × V) (q : List Key × Addr × Value) => p.1 = q.1 ∧ H q.2.1 = some (.tup (p.1.map kV)) ∧ RelV p.2 q.2.2) kvs xs ∧
      ∃ o es ep, h.get? a = some o ∧ o.ExactDict ∧ o.data = .dict es ep ∧ es.toList = xs.map (entryOfKey (tupleKind (mixKind P w))) ∧ (xs.map (·.1)).Nodup
  | .set S n => h.SetOf (intKind P w) a S n
  | .ins C dx fs => H dx = some (.own a) ∧ fs.length ≤ 1000 ∧ dx ≠ a ∧ h.get? a = some (PySem.W.instObj C dx) ∧
      ∃ mA, h.Ns1 dx mA ∧ (∀ f, RelO (fs.lookup f) (mA f)) ∧ PySem.Within mA (fs.map (·.1))
  | .own _ => ∃ o, h.get? a = some o
  | .xd fs => ∃ mA, h.Ns1 a mA ∧ ∀ f, RelO (fs.lookup f) (mA f)
  | .rng lo hi => ∃ t u v, h.get? a = some { cls := .type "range", data := .fields #[.int lo t, .int hi u, .int 1 v] }
  | .frz o u => h.get? a = some o ∧ ObjOk H h a u
  | .tbl ps => h.get? a = some { cls := .none, data := .fields ps }
  | .met f x => h.get? a = some (PySem.W.methodObj (.ref f) (.ref x))
  | .ext φ => φ h ∧ (∃ o, h.get? a = some o) ∧ ∀ h1 h2 : Heap, φ h1 → (∀ o, h1.get? a = some o → h2.get? a = some o) → φ h2
/-- the abstract heap is held -/
noncomputable def HOk (H : Hp) (h : Heap) : Prop := ∀ a o, H a = some o → ObjOk P w H h a o
end

section
variable {P : Program} {w : World} {H H' : Hp} {h h' : Heap} {a : Addr} {o : HO}
theorem ObjOk.lt (x : ObjOk P w H h a o) : a < h.objs.size := by
  cases o with
  | lst xs => obtain ⟨_, _, _, _, e⟩ := x; exact Heap.lt_size e
  | tup xs => obtain ⟨_, _, _, p⟩ := x; exact p.lt
  | dK kvs => obtain ⟨_, _, _, _, o, _, _, e, _⟩ := x; exact Heap.lt_size e
  | dT kvs => obtain ⟨_, _, _, _, o, _, _, e, _⟩ := x; exact Heap.lt_size e
  | set S n => obtain ⟨o, _, _, _, e, _⟩ := x; exact Heap.lt_size e
  | ins C dx fs => obtain ⟨_, _, _, e, _⟩ := x; exact Heap.lt_size e
  | own y => obtain ⟨_, e⟩ := x; exact Heap.lt_size e
  | xd fs => obtain ⟨_, ⟨_, _, _, e, _⟩, _⟩ := x; exact Heap.lt_size e
  | rng lo hi => obtain ⟨_, _, _, e⟩ := x; exact Heap.lt_size e
  | frz ob u => obtain ⟨e, _⟩ := x; exact Heap.lt_size e
  | tbl ps => exact Heap.lt_size (show h.get? a = some _ from x)
  | met f y => exact Heap.lt_size (show h.get? a = some _ from x)
  | ext φ => obtain ⟨_, ⟨_, e⟩, _⟩ := x; exact Heap.lt_size e
theorem Paired.mapP {α β : Type} {F G : α → β → Prop} : ∀ {l₁ : List α} {l₂ : List β}, Paired F l₁ l₂ → (∀ a b, F a b → G a b) → Paired G l₁ l₂
  | _, _, .nil, _ => .nil
  | _, _, .cons r t, f => .cons (f _ _ r) (Paired.mapP t f)
/-- what an object's description leans on: its own object, its own dict, the tuples -/
theorem ObjOk.stay (x : ObjOk P w H h a o) (k : ∀ b u, (b = a ∨ H b = some (.own a)) → h.get? b = some u → h'.get? b = some u)
    (ho : ∀ b, H b = some (.own a) → H' b = some (.own a)) (ht : ∀ b xs, H b = some (.tup xs) → H' b = some (.tup xs)) : ObjOk P w H' h' a o := by
  induction o with
  | lst xs => obtain ⟨z, its, n, r, e⟩ := x; exact ⟨z, its, n, r, k _ _ (.inl rfl) e⟩
  | tup xs => obtain ⟨z, its, r, ob, e, c⟩ := x; exact ⟨z, its, r, ob, k _ _ (.inl rfl) e, c⟩
  | dK kvs => obtain ⟨z, y, vs, r, ob, es, ep, e, c⟩ := x; exact ⟨z, y, vs, r, ob, es, ep, k _ _ (.inl rfl) e, c⟩
  | dT kvs =>
    obtain ⟨z, y, xs, r, ob, es, ep, e, c⟩ := x
    exact ⟨z, y, xs, Paired.mapP r fun p q z => ⟨z.1, ht _ _ z.2.1, z.2.2⟩, ob, es, ep, k _ _ (.inl rfl) e, c⟩
  | set S n => obtain ⟨ob, es, ep, t, e, c⟩ := x; exact ⟨ob, es, ep, t, k _ _ (.inl rfl) e, c⟩
  | ins C dx fs =>
    obtain ⟨d, z, ne, e, mA, ⟨od, es, ep, e2, c⟩, r⟩ := x
    exact ⟨ho _ d, z, ne, k _ _ (.inl rfl) e, mA, ⟨od, es, ep, k _ _ (.inr d) e2, c⟩, r⟩
  | own y => obtain ⟨ob, e⟩ := x; exact ⟨ob, k _ _ (.inl rfl) e⟩
  | xd fs => obtain ⟨mA, ⟨od, es, ep, e, c⟩, r⟩ := x; exact ⟨mA, ⟨od, es, ep, k _ _ (.inl rfl) e, c⟩, r⟩
  | rng lo hi => obtain ⟨t, u, v, e⟩ := x; exact ⟨t, u, v, k _ _ (.inl rfl) e⟩
  | frz ob u ih => obtain ⟨e, q⟩ := x; exact ⟨k _ _ (.inl rfl) e, ih q⟩
  | tbl ps =>
    have e : h.get? a = some { cls := .none, data := .fields ps } := x
    show h'.get? a = some { cls := .none, data := .fields ps }
    exact k a _ (.inl rfl) e
  | met f y =>
    have e : h.get? a = some (PySem.W.methodObj (.ref f) (.ref y)) := x
    show h'.get? a = some (PySem.W.methodObj (.ref f) (.ref y))
    exact k a _ (.inl rfl) e
  | ext φ => obtain ⟨p, ⟨o, e⟩, st⟩ := x; exact ⟨st _ _ p fun o q => k _ _ (.inl rfl) q, ⟨o, k _ _ (.inl rfl) e⟩, st⟩
theorem HOk.lt (x : HOk P w H h) (e : H a = some o) : a < h.objs.size := (x a o e).lt
theorem HOk.fresh (x : HOk P w H h) (e : h.objs.size ≤ a) : H a = none := by
  cases q : H a with
  | none => rfl
  | some u => exact absurd (Nat.lt_of_lt_of_le (x.lt q) e) (Nat.lt_irrefl _)
/-- every object of the heap is kept -/
theorem HOk.kept (x : HOk P w H h) (k : ∀ b u, h.get? b = some u → h'.get? b = some u) : HOk P w H h' := fun a o e =>
  (x a o e).stay (fun b u _ q => k b u q) (fun _ q => q) fun _ _ q => q
/-- a new object is laid and tracked -/
theorem HOk.laid (x : HOk P w H h) (k : ∀ b u, h.get? b = some u → h'.get? b = some u) (hp : h.objs.size ≤ a) (new : ObjOk P w (upd H a o) h' a o) : HOk P w (upd H a o) h' := fun b u e => by
  have hn := x.fresh hp
  by_cases hb : b = a
  · subst hb; rw [upd_same] at e; cases e; exact new
  · rw [upd_ne hb] at e
    exact (x b u e).stay (fun c v _ q => k c v q) (fun c q => by rw [upd_ne (ne_of_none q hn)]; exact q) fun c xs q => by rw [upd_ne (ne_of_none q hn)]; exact q
end

/-- what may be read as u: it is u, or a known u -/
noncomputable def Rd (H : Hp) (a : Addr) (u : HO) : Prop := H a = some u ∨ ∃ o, H a = some (.frz o u)
theorem Rd.ok {P : Program} {w : World} {H : Hp} {h : Heap} {a : Addr} {u : HO} (r : Rd H a u) (x : HOk P w H h) : ObjOk P w H h a u := by
  rcases r with r | ⟨o, r⟩
  · exact x a u r
  · obtain ⟨_, q⟩ := x a _ r
    exact q
/-- what may be written -/
noncomputable def Mut : Option HO → Prop
  | some (.lst _) => True
  | some (.dK _) => True
  | some (.dT _) => True
  | some (.set _ _) => True
  | some (.ins _ _ _) => True
  | some (.ext _) => True
  | _ => False
section
variable {P : Program} {w : World} {H : Hp} {h h' : Heap} {x e : Addr} {o' : HO}
/-- the object at e is changed: x itself, or the dict of the instance x -/
theorem HOk.write (ok : HOk P w H h) (mu : Mut (H x)) (he : e = x ∨ H e = some (.own x)) (k : ∀ b u, b ≠ e → h.get? b = some u → h'.get? b = some u) (heo : ∃ u, h'.get? e = some u)
    (new : ObjOk P w (upd H x o') h' x o') : HOk P w (upd H x o') h' := fun b u q => by
  have nown : ∀ c y, H c = some (.own y) → c ≠ x := fun c y r z => by subst z; rw [r] at mu; exact mu
  have ntup : ∀ c xs, H c = some (.tup xs) → c ≠ x := fun c xs r z => by subst z; rw [r] at mu; exact mu
  by_cases hb : b = x
  · subst hb; rw [upd_same] at q; cases q; exact new
  · rw [upd_ne hb] at q
    by_cases hbe : b = e
    · have q' : H b = some (.own x) := by
        rcases he with z | z
        · exact absurd (hbe.trans z) hb
        · rw [hbe]; exact z
      rw [q] at q'; cases q'
      obtain ⟨v, hv⟩ := heo
      exact ⟨v, by rw [hbe]; exact hv⟩
    · refine (ok b u q).stay (fun c v hc r => k c v ?_ r) (fun c r => by rw [upd_ne (nown c b r)]; exact r) fun c xs r => by rw [upd_ne (ntup c xs r)]; exact r
      rcases hc with rfl | hc
      · exact hbe
      · rintro rfl
        rcases he with z | z
        · exact nown c b hc z
        · rw [hc] at z; cases z; exact hb rfl
end

/-! ### kept unless tracked; of the frames at fs (the callers') the slots may change (an exception that passes writes there); of the records at ex (iterators) nothing is said -/
structure Un (fs ex : List Addr) (H H' : Hp) (h h' : Heap) : Prop where
  keep : ∀ b o, h.get? b = some o → H b = none → b ∉ fs → b ∉ ex → h'.get? b = some o
  slot : ∀ b o, h.get? b = some o → H b = none → b ∈ fs → b ∉ ex → ∃ sl, h'.get? b = some { o with slots := sl }
  free : ∀ b o, h.get? b = some o → H b = none → b ∉ ex → H' b = none
  there : ∀ b o, h.get? b = some o → b ∉ ex → ∃ o', h'.get? b = some o'
  tups : ∀ b xs, H b = some (.tup xs) → H' b = some (.tup xs)
  frzs : ∀ b o u, H b = some (.frz o u) → H' b = some (.frz o u)
  tbls : ∀ b ps, H b = some (.tbl ps) → ∃ more, H' b = some (.tbl (ps ++ more))
section
variable {fs fs' ex ex' : List Addr} {H H1 H2 : Hp} {h h1 h2 h' : Heap} {a x e : Addr} {o : HO}
theorem Un.any (u : Un fs ex H H1 h h1) {b : Addr} {ob : Obj} (q : h.get? b = some ob) (n : H b = none) (hx : b ∉ ex) : ∃ sl, h1.get? b = some { ob with slots := sl } := by
  by_cases hb : b ∈ fs
  · exact u.slot b ob q n hb hx
  · exact ⟨ob.slots, u.keep b ob q n hb hx⟩
theorem Un.kept (k : ∀ b u, h.get? b = some u → h'.get? b = some u) : Un fs ex H H h h' :=
  ⟨fun b ob q _ _ _ => k b ob q, fun b ob q _ _ _ => ⟨ob.slots, k b ob q⟩, fun _ _ _ n _ => n, fun b ob q _ => ⟨ob, k b ob q⟩, fun _ _ q => q, fun _ _ _ q => q, fun _ ps q => ⟨#[], by rw [q]; simp⟩⟩
theorem Un.refl : Un fs ex H H h h := Un.kept fun _ _ q => q
theorem Un.laid (k : ∀ b u, h.get? b = some u → h'.get? b = some u) (hp : h.objs.size ≤ a) (hn : H a = none) : Un fs ex H (upd H a o) h h' where
  keep := fun b u q _ _ _ => k b u q
  slot := fun b u q _ _ _ => ⟨u.slots, k b u q⟩
  free := fun b u q n _ => by rw [upd_ne (Nat.ne_of_lt (Nat.lt_of_lt_of_le (Heap.lt_size q) hp))]; exact n
  there := fun b u q _ => ⟨u, k b u q⟩
  tups := fun b xs q => by rw [upd_ne (ne_of_none q hn)]; exact q
  frzs := fun b u xs q => by rw [upd_ne (ne_of_none q hn)]; exact q
  tbls := fun b ps q => ⟨#[], by rw [upd_ne (ne_of_none q hn), q]; simp⟩
theorem Un.write (mu : Mut (H x)) (he : e = x ∨ H e = some (.own x)) (k : ∀ b u, b ≠ e → h.get? b = some u → h'.get? b = some u) (heo : ∃ u, h'.get? e = some u) : Un fs ex H (upd H x o) h h' := by
  have hx : ∀ b, H b = none → b ≠ x := fun b n z => by subst z; rw [n] at mu; exact mu
  have hb : ∀ b, H b = none → b ≠ e := fun b n z => by
    subst z
    rcases he with r | r
    · exact hx b n r
    · rw [n] at r; cases r
  have hm : ∀ b u, H b = some u → ¬ Mut (some u) → b ≠ x := fun b u q nm z => by subst z; rw [q] at mu; exact nm mu
  refine ⟨fun b u q n _ _ => k b u (hb b n) q, fun b u q n _ _ => ⟨u.slots, k b u (hb b n) q⟩, fun b u q n _ => by rw [upd_ne (hx b n)]; exact n, fun b u q _ => ?_,
    fun b xs q => by rw [upd_ne (hm b _ q fun z => z)]; exact q, fun b u xs q => by rw [upd_ne (hm b _ q fun z => z)]; exact q, fun b ps q => ⟨#[], by rw [upd_ne (hm b _ q fun z => z), q]; simp⟩⟩
  by_cases hbe : b = e
  · subst hbe; exact heo
  · exact ⟨u, k b u hbe q⟩
end

/-! ### the heap without what is tracked -/
noncomputable def trk (h : Heap) (H : Hp) : List Addr := (List.range h.objs.size).filter fun a => (H a).isSome
noncomputable def hidT (h : Heap) (H : Hp) : Heap := PySem.W.hideAll h (trk h H)
theorem hidT_size (h : Heap) (H : Hp) : (hidT h H).objs.size = h.objs.size := PySem.W.hideAll_size _ _
theorem hidT_get {h : Heap} {H : Hp} {b : Addr} {o : Obj} (e : h.get? b = some o) (n : H b = none) : (hidT h H).get? b = some o :=
  PySem.W.hideAll_get _ e fun hm => by
    have q : (H b).isSome = true := (List.mem_filter.mp hm).2
    rw [n] at q; simp at q
theorem of_hidT {h : Heap} {H : Hp} {b : Addr} {o : Obj} (e : (hidT h H).get? b = some o) : h.get? b = some o ∧ H b = none := by
  have e' : h.get? b = some o := PySem.W.of_hideAll (trk h H) e
  refine ⟨e', ?_⟩
  cases q : H b with
  | none => rfl
  | some x =>
    have hm : b ∈ trk h H := List.mem_filter.mpr ⟨List.mem_range.mpr (Heap.lt_size e'), by simp [q]⟩
    have z : (hidT h H).get? b = none := PySem.W.hideAll_none (trk h H) hm
    rw [z] at e; cases e

/-! ### OpenK's ledger, filled with every new object but one -/
noncomputable def allNews (g h : Heap) (L : Addr) : List (Addr × Obj) := (List.range h.objs.size).filterMap fun a => if a = L ∨ (g.get? a).isSome = true then none else (h.get? a).map fun o => (a, o)
noncomputable def rest (g h : Heap) (L d : Addr) : List (Addr × Obj) := (allNews g h L).filter fun p => decide (p.1 ≠ d)
end L2

namespace L2
open PySem PySem.Spec PyProof.Rows

/-- the module's facts, over the base: the heap at the law's entry without what is tracked there -/
structure Mod (K : PySem.W.Frag) (mg : Str → Option Value) (base : Heap) : Prop where
  kin : K.In base
  glob : base.Ns mainGlobals mg
  blt : ∃ mb, base.Ns builtinsNs mb ∧ ∀ x : Str, x ≠ "__name__" → mb x = bootBuiltins x
  nolimit : base.NoLimit

/-- the context: a def's body (or a comprehension's block) running. base: fixed through the whole law; s₀, H₀: the entry; outer: the frames whose slots others may change (a def's callers); stack: all frames that run;
   ex: iterators that were made ahead of the entry and are walked here (a comprehension's); fn: the names whose cells were made at the entry (a def: all; a comprehension's block: its own); calm: not within an except suite; pn: pins that every state bears; xe: what is wanted of an exception that leaves the code -/
structure Cx where
  prog : Program
  w : World
  K : PySem.W.Frag
  mg : Str → Option Value
  base : Heap
  A : Around
  N : List Str
  s₀ : Shared
  H₀ : Hp
  env : Env
  outer : List Env
  stack : List Env
  ex : List Addr
  fn : Str → Bool
  calm : Bool
  pn : List (Addr × Obj)
  xe : Value → Shared → Prop
/-- the callers' frames -/
noncomputable def frs (l : List Env) : List Addr := l.filterMap (·.frame)
noncomputable abbrev Cx.fs (X : Cx) : List Addr := frs X.outer

noncomputable def Vis (sc : Scope) (x : Str) : Prop := sc.names.lookup x = some .local ∨ sc.names.lookup x = some .cell ∨ sc.names.lookup x = some .free
noncomputable def Loc (sc : Scope) (x : Str) : Prop := sc.names.lookup x = some .local ∨ sc.names.lookup x = some .cell
noncomputable def Look (env : Env) (h : Heap) (m : Str → Option Value) (x : Str) (u : Value) : Prop :=
  (env.kindOf x = some .local ∧ m x = some u) ∨ ((env.kindOf x = some .cell ∨ env.kindOf x = some .free) ∧ ∃ c, env.cells.lookup x = some c ∧ h.IsCell c (some u))

structure Cx.Ok (X : Cx) : Prop where
  mod : Mod X.K X.mg X.base
  kind : X.env.scope.kind = .function
  glob : X.env.globals = mainGlobals
  blt : X.env.builtins = builtinsNs
  above : X.s₀.heap.objs.size ≤ X.env.locals
  inj : ∀ x y c, X.env.cells.lookup x = some c → X.env.cells.lookup y = some c → x = y
  has : ∀ x, (X.env.kindOf x = some .cell ∨ X.env.kindOf x = some .free) → ∃ c, X.env.cells.lookup x = some c
  cab : ∀ x c, X.fn x = true → X.env.cells.lookup x = some c → X.s₀.heap.objs.size ≤ c
  hd : X.calm = true → X.A.handled = none
  frames : X.A.frames = some X.stack
  stk : X.stack = X.outer ∨ (X.stack = X.env :: X.outer ∧ X.env.frame = some X.env.locals)
  exf : ∀ b ∈ X.ex, b ≠ X.env.locals ∧ ∀ x c, X.env.cells.lookup x = some c → c ≠ b
  bs : ∀ b o, X.base.get? b = some o → X.s₀.heap.get? b = some o ∧ X.H₀ b = none
  bsz : X.base.objs.size ≤ X.s₀.heap.objs.size
  noex : ∀ b o, X.base.get? b = some o → b ∉ X.ex
  exfs : ∀ b ∈ X.ex, b ∉ X.fs
  funs : X.s₀.heap.FunFrames X.base X.outer
  frf : ∀ b ∈ X.fs, X.H₀ b = none

structure Inv (X : Cx) (pins : List (Addr × Obj)) (σ : List (Option V)) (H : Hp) (s : Shared) : Prop where
  ok : X.Ok
  os : s.os = X.s₀.os
  bare : AllBare s.gens
  base : Un X.fs X.ex X.H₀ H X.s₀.heap s.heap
  loc : ∃ m, s.heap.Ns X.env.locals m ∧ ∀ (i : Nat) (x : Str) (v : V), X.N[i]? = some x → σ[i]? = some (some v) → Vis X.env.scope x → ∃ u, RelV v u ∧ Look X.env s.heap m x u
  cell : ∀ x c, X.env.cells.lookup x = some c → ∃ v, s.heap.IsCell c v
  free : H X.env.locals = none
  freeC : ∀ x c, X.env.cells.lookup x = some c → H c = none
  pin : ∀ p ∈ X.pn ++ pins, s.heap.get? p.1 = some p.2 ∧ H p.1 = none ∧ p.1 ≠ X.env.locals ∧ p.1 ∉ X.fs ∧ ∀ v, p.2.data ≠ .cell v
  hok : HOk X.prog X.w H s.heap
  len : σ.length = X.N.length

section
variable {X : Cx} {pins : List (Addr × Obj)} {σ : List (Option V)} {H H' : Hp} {s : Shared} {h' : Heap}

theorem Cx.Ok.nofr (ok : X.Ok) {b : Addr} {o : Obj} (e : X.base.get? b = some o) : b ∉ X.fs := fun hb => by
  have := (ok.funs.mem hb).1
  rw [e] at this; cases this
theorem Inv.bs (I : Inv X pins σ H s) : ∀ b o, X.base.get? b = some o → s.heap.get? b = some o ∧ H b = none := fun b o e =>
  ⟨I.base.keep b o (I.ok.bs b o e).1 (I.ok.bs b o e).2 (I.ok.nofr e) (I.ok.noex b o e), I.base.free b o (I.ok.bs b o e).1 (I.ok.bs b o e).2 (I.ok.noex b o e)⟩
theorem Inv.bk (I : Inv X pins σ H s) : ∀ b o, X.base.get? b = some o → s.heap.get? b = some o := fun b o e => (I.bs b o e).1
theorem Inv.mod (I : Inv X pins σ H s) : Mod X.K X.mg X.base := I.ok.mod
theorem Inv.kIn (I : Inv X pins σ H s) : X.K.In s.heap := I.ok.mod.kin.keeps I.bk
theorem Inv.lt (I : Inv X pins σ H s) : X.env.locals < s.heap.objs.size := let ⟨_, hn, _⟩ := I.loc; hn.lt
theorem Inv.sz (I : Inv X pins σ H s) : X.s₀.heap.objs.size ≤ s.heap.objs.size := Nat.le_trans I.ok.above (Nat.le_of_lt I.lt)
theorem Inv.nofs (I : Inv X pins σ H s) {a : Addr} (h : s.heap.objs.size ≤ a) : a ∉ X.fs := fun hb => by
  obtain ⟨_, o, ho, _⟩ := I.ok.funs.mem hb
  exact absurd (Nat.lt_of_lt_of_le (Heap.lt_size ho) (Nat.le_trans I.sz h)) (Nat.lt_irrefl _)
theorem Inv.cne (I : Inv X pins σ H s) : ∀ x c, X.env.cells.lookup x = some c → c ≠ X.env.locals := fun x c e z => by
  obtain ⟨v, o, ho, hd⟩ := I.cell x c e
  obtain ⟨m, ⟨o', es, ep, ho', hd', _⟩, _⟩ := I.loc
  rw [z, ho'] at ho; cases ho; rw [hd'] at hd; cases hd
theorem Inv.funs (I : Inv X pins σ H s) : s.heap.FunFrames X.base X.outer := by
  have all : ∀ (l : List Env), (∀ b ∈ frs l, b ∈ X.fs) → X.s₀.heap.FunFrames X.base l → s.heap.FunFrames X.base l := by
    intro l
    induction l with
    | nil => intro _ _; trivial
    | cons env r ih =>
      intro hs hl
      obtain ⟨hk, ⟨L, o, hf, hn, ho, hd⟩, hr⟩ := hl
      have hL : L ∈ X.fs := hs L (by unfold frs; rw [List.filterMap_cons, hf]; exact List.mem_cons_self)
      obtain ⟨sl, e⟩ := I.base.slot L o ho (I.ok.frf L hL) hL fun z => I.ok.exfs L z hL
      exact ⟨hk, ⟨L, _, hf, hn, e, hd⟩, ih (fun b hb => hs b (by unfold frs; rw [List.filterMap_cons, hf]; exact List.mem_cons_of_mem _ hb)) hr⟩
  exact all X.outer (fun _ hb => hb) I.ok.funs

/-- the frames that run, for a call -/
theorem Inv.stack (I : Inv X pins σ H s) : s.heap.FunFrames X.base X.stack := by
  rcases I.ok.stk with e | ⟨e, hf⟩
  · rw [e]; exact I.funs
  · rw [e]
    obtain ⟨m, hn, _⟩ := I.loc
    refine .cons (by rw [I.ok.kind]; decide) hf hn ?_ I.funs
    exact Heap.get?_none_of_le (Nat.le_trans I.ok.bsz I.ok.above)
theorem Inv.stkSub (I : Inv X pins σ H s) : ∀ b ∈ frs X.stack, b ∈ X.env.locals :: X.fs := fun b hb => by
  rcases I.ok.stk with e | ⟨e, hf⟩
  · rw [e] at hb; exact List.mem_cons_of_mem _ hb
  · rw [e] at hb
    unfold frs at hb
    rw [List.filterMap_cons, hf] at hb
    exact hb
theorem Inv.stkFree (I : Inv X pins σ H s) : ∀ b ∈ frs X.stack, H b = none := fun b hb => by
  rcases List.mem_cons.mp (I.stkSub b hb) with e | hb
  · rw [e]; exact I.free
  · obtain ⟨_, o, ho, _⟩ := I.ok.funs.mem hb
    exact I.base.free b o ho (I.ok.frf b hb) fun z => I.ok.exfs b z hb

/-- THE STEP: the untracked objects but the frame and the records at ch are kept (the callers' frames up to slots), the frame's map is kept, the new abstract heap is held -/
theorem Inv.step {g' : Array GenState} {t' : Nat} {d' : Drawn} {ch : List Addr} (I : Inv X pins σ H s)
    (hch : ∀ b ∈ ch, (b ∈ X.ex ∨ X.s₀.heap.objs.size ≤ b) ∧ b ≠ X.env.locals ∧ (∀ x c, X.env.cells.lookup x = some c → c ≠ b) ∧ ∀ p ∈ X.pn ++ pins, p.1 ≠ b)
    (keep : ∀ b o, b ≠ X.env.locals → b ∉ X.fs → b ∉ ch → s.heap.get? b = some o → H b = none → h'.get? b = some o)
    (slot : ∀ b o, b ≠ X.env.locals → b ∈ X.fs → b ∉ ch → s.heap.get? b = some o → H b = none → ∃ sl, h'.get? b = some { o with slots := sl }) (free : ∀ b o, b ∉ ch → s.heap.get? b = some o → H b = none → H' b = none)
    (there : ∀ b o, b ∉ ch → s.heap.get? b = some o → ∃ o', h'.get? b = some o')
    (tups : ∀ b xs, H b = some (.tup xs) → H' b = some (.tup xs)) (frzs : ∀ b o u, H b = some (.frz o u) → H' b = some (.frz o u)) (tbls : ∀ b ps, H b = some (.tbl ps) → ∃ more, H' b = some (.tbl (ps ++ more)))
    (ns : ∀ m, s.heap.Ns X.env.locals m → h'.Ns X.env.locals m) (hok : HOk X.prog X.w H' h') (hg : AllBare g') :
    Inv X pins σ H' { s with heap := h', gens := g', drawn := d', toks := t' } := by
  have neL : ∀ b o, X.s₀.heap.get? b = some o → b ≠ X.env.locals := fun b o e => Nat.ne_of_lt (Nat.lt_of_lt_of_le (Heap.lt_size e) I.ok.above)
  have neC : ∀ b o, X.s₀.heap.get? b = some o → b ∉ X.ex → b ∉ ch := fun b o e hx hb => by
    rcases (hch b hb).1 with z | z
    · exact hx z
    · exact absurd (Nat.lt_of_lt_of_le (Heap.lt_size e) z) (Nat.lt_irrefl _)
  have cellK : ∀ x c, X.env.cells.lookup x = some c → ∀ v, s.heap.IsCell c v → h'.IsCell c v := fun x c e v ⟨o, ho, hd⟩ => by
    have nch : c ∉ ch := fun z => (hch c z).2.2.1 x c e rfl
    by_cases hc : c ∈ X.fs
    · obtain ⟨sl, q⟩ := slot c o (I.cne x c e) hc nch ho (I.freeC x c e)
      exact ⟨_, q, hd⟩
    · exact ⟨o, keep c o (I.cne x c e) hc nch ho (I.freeC x c e), hd⟩
  refine ⟨I.ok, I.os, hg, ⟨fun b o e n hb hx => ?_, fun b o e n hb hx => ?_, fun b o e n hx => ?_, fun b o e hx => ?_, fun b xs e => tups b xs (I.base.tups b xs e), fun b o xs e => frzs b o xs (I.base.frzs b o xs e), fun b ps e => ?_⟩, ?_, fun x c e => ?_, ?_, fun x c e => ?_, fun p hp => ?_, hok, I.len⟩
  · exact keep b o (neL b o e) hb (neC b o e hx) (I.base.keep b o e n hb hx) (I.base.free b o e n hx)
  · obtain ⟨sl, e1⟩ := I.base.slot b o e n hb hx
    obtain ⟨sl', e2⟩ := slot b _ (neL b o e) hb (neC b o e hx) e1 (I.base.free b o e n hx)
    exact ⟨sl', e2⟩
  · obtain ⟨o', e1⟩ := I.base.there b o e hx
    exact free b o' (neC b o e hx) e1 (I.base.free b o e n hx)
  · obtain ⟨o', e1⟩ := I.base.there b o e hx
    exact there b o' (neC b o e hx) e1
  · obtain ⟨m1, e1⟩ := I.base.tbls b ps e
    obtain ⟨m2, e2⟩ := tbls b _ e1
    exact ⟨m1 ++ m2, by rw [e2, Array.append_assoc]⟩
  · obtain ⟨m, hn, hl⟩ := I.loc
    refine ⟨m, ns m hn, fun i x v e1 e2 e3 => ?_⟩
    obtain ⟨u, r, l⟩ := hl i x v e1 e2 e3
    refine ⟨u, r, ?_⟩
    rcases l with l | ⟨k, c, e, z⟩
    · exact .inl l
    · exact .inr ⟨k, c, e, cellK x c e _ z⟩
  · obtain ⟨v, z⟩ := I.cell x c e
    exact ⟨v, cellK x c e v z⟩
  · obtain ⟨m, ⟨o, _, _, ho, _⟩, _⟩ := I.loc
    exact free _ o (fun z => (hch _ z).2.1 rfl) ho I.free
  · obtain ⟨v, o, ho, hd⟩ := I.cell x c e
    exact free c o (fun z => (hch c z).2.2.1 x c e rfl) ho (I.freeC x c e)
  · obtain ⟨e, n, ne, nf, d⟩ := I.pin p hp
    have nch : p.1 ∉ ch := fun z => (hch p.1 z).2.2.2 p hp rfl
    exact ⟨keep p.1 p.2 ne nf nch e n, free p.1 p.2 nch e n, ne, nf, d⟩
/-- .. where the frame's own object is kept too -/
theorem Inv.un {t' : Nat} (I : Inv X pins σ H s) (u : Un X.fs [] H H' s.heap h') (hok : HOk X.prog X.w H' h') : Inv X pins σ H' { s with heap := h', toks := t' } := by
  obtain ⟨m, ⟨o, es, ep, ho, r⟩, _⟩ := id I.loc
  obtain ⟨sl, hL⟩ := u.any ho I.free (by simp)
  exact I.step (g' := s.gens) (d' := s.drawn) (ch := []) (fun _ z => nomatch z) (fun b o _ hb _ e n => u.keep b o e n hb (by simp)) (fun b o _ hb _ e n => u.slot b o e n hb (by simp)) (fun b o _ e n => u.free b o e n (by simp)) (fun b o _ e => u.there b o e (by simp)) u.tups u.frzs u.tbls (fun m' hm => by
    obtain ⟨o', es', ep', ho', r'⟩ := hm
    rw [ho] at ho'; cases ho'
    exact ⟨_, es', ep', hL, r'⟩) hok I.bare
/-- behind a call (or a comprehension's block): the slots of this frame may have changed too, the records at ch may have turned -/
theorem Inv.call {g' : Array GenState} {t' : Nat} {d' : Drawn} {ch : List Addr} (I : Inv X pins σ H s) (u : Un (frs X.stack) ch H H' s.heap h') (hok : HOk X.prog X.w H' h') (hg : AllBare g')
    (hch : ∀ b ∈ ch, (b ∈ X.ex ∨ X.s₀.heap.objs.size ≤ b) ∧ b ≠ X.env.locals ∧ (∀ x c, X.env.cells.lookup x = some c → c ≠ b) ∧ ∀ p ∈ X.pn ++ pins, p.1 ≠ b) :
    Inv X pins σ H' { s with heap := h', gens := g', drawn := d', toks := t' } := by
  obtain ⟨m, ⟨o, es, ep, ho, r⟩, _⟩ := id I.loc
  obtain ⟨sl, hL⟩ := u.any ho I.free fun z => (hch _ z).2.1 rfl
  exact I.step (ch := ch) hch (fun b o hL hb hc e n => u.keep b o e n (fun z => (List.mem_cons.mp (I.stkSub b z)).elim hL hb) hc) (fun b o _ _ hc e n => u.any e n hc) (fun b o hc e n => u.free b o e n hc) (fun b o hc e => u.there b o e hc) u.tups u.frzs u.tbls (fun m' hm => by
    obtain ⟨o', es', ep', ho', r'⟩ := hm
    rw [ho] at ho'; cases ho'
    exact ⟨_, es', ep', hL, r'⟩) hok hg
/-- an untracked record of ours (an iterator) has turned -/
theorem Inv.turned {t' : Nat} {it : Addr} (I : Inv X pins σ H s) (k : ∀ b o, b ≠ it → s.heap.get? b = some o → h'.get? b = some o) (hn : H it = none) (hL : it ≠ X.env.locals)
    (h1 : it ∈ X.ex ∨ X.s₀.heap.objs.size ≤ it) (h2 : ∀ x c, X.env.cells.lookup x = some c → c ≠ it) (h3 : ∀ p ∈ X.pn ++ pins, p.1 ≠ it) : Inv X pins σ H { s with heap := h', toks := t' } := by
  have nit : ∀ b u, H b = some u → b ≠ it := fun b u e z => by rw [z, hn] at e; cases e
  refine I.step (g' := s.gens) (d' := s.drawn) (ch := [it]) (fun b hb => ?_) (fun b o _ _ hc e _ => k b o (fun z => hc (by simp [z])) e) (fun b o _ _ hc e _ => ⟨o.slots, k b o (fun z => hc (by simp [z])) e⟩) (fun _ _ _ _ n => n)
    (fun b o hc e => ⟨o, k b o (fun z => hc (by simp [z])) e⟩) (fun _ _ e => e) (fun _ _ _ e => e) (fun b ps e => ⟨#[], by rw [e]; simp⟩) (fun m hm => ?_) (fun b u e => ?_) I.bare
  · have e : b = it := by simpa using hb
    subst e
    exact ⟨h1, hL, h2, h3⟩
  · obtain ⟨o, es, ep, ho, r⟩ := hm
    exact ⟨o, es, ep, k _ o (Ne.symm hL) ho, r⟩
  · refine (I.hok b u e).stay (fun c v hc q => k c v ?_ q) (fun _ q => q) fun _ _ q => q
    rcases hc with z | z
    · rw [z]; exact nit b u e
    · exact nit c _ z
theorem Inv.tok (I : Inv X pins σ H s) (t : Nat) : Inv X pins σ H { s with toks := t } := I.un (h' := s.heap) (t' := t) Un.refl I.hok
/-- all objects kept -/
theorem Inv.kept {t' : Nat} (I : Inv X pins σ H s) (k : ∀ b u, s.heap.get? b = some u → h'.get? b = some u) : Inv X pins σ H { s with heap := h', toks := t' } := I.un (Un.kept k) (I.hok.kept k)
/-- a new object laid and tracked -/
theorem Inv.laid {a : Addr} {o : HO} {t' : Nat} (I : Inv X pins σ H s) (k : ∀ b u, s.heap.get? b = some u → h'.get? b = some u) (hp : s.heap.objs.size ≤ a) (new : ObjOk X.prog X.w (upd H a o) h' a o) :
    Inv X pins σ (upd H a o) { s with heap := h', toks := t' } := I.un (Un.laid k hp (I.hok.fresh hp)) (I.hok.laid k hp new)
/-- an object written -/
theorem Inv.write {x e : Addr} {o : HO} {t' : Nat} (I : Inv X pins σ H s) (mu : Mut (H x)) (he : e = x ∨ H e = some (.own x)) (k : ∀ b u, b ≠ e → s.heap.get? b = some u → h'.get? b = some u) (heo : ∃ u, h'.get? e = some u)
    (new : ObjOk X.prog X.w (upd H x o) h' x o) : Inv X pins σ (upd H x o) { s with heap := h', toks := t' } := I.un (Un.write mu he k heo) (I.hok.write mu he k heo new)
/-- forgetting slots, pins -/
theorem Inv.weak {σ' : List (Option V)} (I : Inv X pins σ H s) (hl : σ'.length = σ.length) (w : ∀ (i : Nat) v, σ'[i]? = some (some v) → σ[i]? = some (some v)) : Inv X pins σ' H s :=
  ⟨I.ok, I.os, I.bare, I.base, let ⟨m, hn, hl'⟩ := I.loc; ⟨m, hn, fun i x v e1 e2 e3 => hl' i x v e1 (w i v e2) e3⟩, I.cell, I.free, I.freeC, I.pin, I.hok, hl.trans I.len⟩
theorem Inv.pins_of {pins' : List (Addr × Obj)} (I : Inv X pins σ H s) (h : ∀ p ∈ pins', s.heap.get? p.1 = some p.2 ∧ H p.1 = none ∧ p.1 ≠ X.env.locals ∧ p.1 ∉ X.fs ∧ ∀ v, p.2.data ≠ .cell v) : Inv X pins' σ H s :=
  ⟨I.ok, I.os, I.bare, I.base, I.loc, I.cell, I.free, I.freeC, fun p hp => (List.mem_append.mp hp).elim (fun z => I.pin p (List.mem_append_left _ z)) (h p), I.hok, I.len⟩

theorem nodup_ix {N : List Str} (hN : N.Nodup) {i j : Nat} {x : Str} (a : N[i]? = some x) (b : N[j]? = some x) : i = j := by
  obtain ⟨h1, e1⟩ := List.getElem?_eq_some_iff.mp a
  obtain ⟨h2, e2⟩ := List.getElem?_eq_some_iff.mp b
  exact (List.getElem_inj hN).mp (e1.trans e2.symm)

/-- a name is stored; what changed -/
theorem store_ok2 {M : Model} {A : Around} {E : Value → Shared → Prop} {i : Nat} {x : Str} {v : V} {u : Value} {Q : Unit → Shared → Prop} (I : Inv X pins σ H s) (hN : X.N.Nodup) (hi : X.N[i]? = some x) (hx : Loc X.env.scope x) (r : RelV v u)
    (h : ∀ s', Inv X pins (σ.set i (some v)) H s' → (∃ a, Heap.SameBut a s.heap s'.heap ∧ (a = X.env.locals ∨ X.env.cells.lookup x = some a)) → Q () s') (hf : X.fn x = true ∨ X.env.scope.names.lookup x = some .local := by first | exact .inl rfl | exact .inr rfl | assumption) : wpAny M A (storeName X.env x u) Q E s := by
  obtain ⟨m, hn, hl⟩ := id I.loc
  have hcls : (X.env.scope.kind == .class || (X.env.scope.kind == .module && X.env.locals != X.env.globals)) = false := by rw [I.ok.kind]; rfl
  have hiσ : i < σ.length := by rw [I.len]; exact (List.getElem?_eq_some_iff.mp hi).1
  have cne := I.cne
  have tracked : ∀ {a : Addr} {h' : Heap}, (∃ o, s.heap.get? a = some o ∧ H a = none) → Heap.SameBut a s.heap h' → HOk X.prog X.w H h' := fun {a h'} ha hs b ob e => by
    obtain ⟨_, _, hfree⟩ := ha
    refine (I.hok b ob e).stay (fun c w' hc q => (hs.2 c ?_).trans q) (fun _ q => q) fun _ _ q => q
    rintro rfl
    rcases hc with rfl | hc
    · rw [hfree] at e; cases e
    · rw [hfree] at hc; cases hc
  rcases hx with hk | hk
  · refine wpAny_storeName_local hk hn (fun h' hn' hs => ?_) hcls
    obtain ⟨oL, _, _, hoL, _⟩ := id hn
    refine h _ ⟨I.ok, I.os, I.bare, ⟨fun b o e n hb hx => ?_, fun b o e n hb hx => ?_, I.base.free, fun b o e hx => ?_, I.base.tups, I.base.frzs, I.base.tbls⟩, ⟨_, hn', fun j y v' e1 e2 e3 => ?_⟩, fun y c e => ?_, I.free, I.freeC, fun p hp => ?_, tracked ⟨oL, hoL, I.free⟩ hs, by simpa using I.len⟩ ⟨_, hs, .inl rfl⟩
    · exact (hs.2 b (Nat.ne_of_lt (Nat.lt_of_lt_of_le (Heap.lt_size e) I.ok.above))).trans (I.base.keep b o e n hb hx)
    · obtain ⟨sl, e1⟩ := I.base.slot b o e n hb hx
      exact ⟨sl, (hs.2 b (Nat.ne_of_lt (Nat.lt_of_lt_of_le (Heap.lt_size e) I.ok.above))).trans e1⟩
    · obtain ⟨o', e1⟩ := I.base.there b o e hx
      exact ⟨o', (hs.2 b (Nat.ne_of_lt (Nat.lt_of_lt_of_le (Heap.lt_size e) I.ok.above))).trans e1⟩
    · by_cases hj : j = i
      · subst hj
        rw [hi] at e1; cases e1
        rw [List.getElem?_set_self hiσ] at e2
        cases e2
        exact ⟨u, r, .inl ⟨hk, by simp⟩⟩
      · rw [List.getElem?_set_ne (Ne.symm hj)] at e2
        obtain ⟨u', r', q⟩ := hl j y v' e1 e2 e3
        refine ⟨u', r', ?_⟩
        rcases q with ⟨k, e⟩ | ⟨k, c, e, z⟩
        · refine .inl ⟨k, ?_⟩
          have : y ≠ x := fun e => hj (nodup_ix hN e1 (e ▸ hi))
          simp [this, e]
        · exact .inr ⟨k, c, e, z.sameBut hs (cne y c e)⟩
    · obtain ⟨w', z⟩ := I.cell y c e
      exact ⟨w', z.sameBut hs (cne y c e)⟩
    · obtain ⟨e, n, ne, nf, d⟩ := I.pin p hp
      exact ⟨(hs.2 p.1 ne).trans e, n, ne, nf, d⟩
  · have hfn : X.fn x = true := by
      rcases hf with z | z
      · exact z
      · rw [z] at hk; cases hk
    obtain ⟨c, hc⟩ := I.ok.has x (.inl hk)
    obtain ⟨w', z⟩ := I.cell x c hc
    refine wpAny_storeName_cell I.ok.kind hk hc z (fun h' hc' hs => ?_)
    obtain ⟨oc, hoc, hocd⟩ := id z
    refine h { s with heap := h' } ⟨I.ok, I.os, I.bare, ⟨fun b o e n hb hx => ?_, fun b o e n hb hx => ?_, I.base.free, fun b o e hx => ?_, I.base.tups, I.base.frzs, I.base.tbls⟩, ⟨m, hn.sameBut hs (Ne.symm (cne x c hc)), fun j y v' e1 e2 e3 => ?_⟩, fun y c' e => ?_, I.free, I.freeC, fun p hp => ?_, tracked ⟨oc, hoc, I.freeC x c hc⟩ hs, by simpa using I.len⟩ ⟨c, hs, .inr hc⟩
    · exact (hs.2 b (Nat.ne_of_lt (Nat.lt_of_lt_of_le (Heap.lt_size e) (I.ok.cab x c hfn hc)))).trans (I.base.keep b o e n hb hx)
    · obtain ⟨sl, e1⟩ := I.base.slot b o e n hb hx
      exact ⟨sl, (hs.2 b (Nat.ne_of_lt (Nat.lt_of_lt_of_le (Heap.lt_size e) (I.ok.cab x c hfn hc)))).trans e1⟩
    · obtain ⟨o', e1⟩ := I.base.there b o e hx
      exact ⟨o', (hs.2 b (Nat.ne_of_lt (Nat.lt_of_lt_of_le (Heap.lt_size e) (I.ok.cab x c hfn hc)))).trans e1⟩
    · by_cases hj : j = i
      · subst hj
        rw [hi] at e1; cases e1
        rw [List.getElem?_set_self hiσ] at e2
        cases e2
        exact ⟨u, r, .inr ⟨.inl hk, c, hc, hc'⟩⟩
      · rw [List.getElem?_set_ne (Ne.symm hj)] at e2
        obtain ⟨u', r', q⟩ := hl j y v' e1 e2 e3
        refine ⟨u', r', ?_⟩
        rcases q with q | ⟨k, c', e, z'⟩
        · exact .inl q
        · refine .inr ⟨k, c', e, z'.sameBut hs ?_⟩
          rintro rfl
          exact hj (nodup_ix hN e1 (I.ok.inj _ _ _ e hc ▸ hi))
    · by_cases hcc : c' = c
      · subst hcc; exact ⟨_, hc'⟩
      · obtain ⟨w2, z2⟩ := I.cell y c' e
        exact ⟨w2, z2.sameBut hs hcc⟩
    · obtain ⟨e, n, ne, nf, d⟩ := I.pin p hp
      refine ⟨(hs.2 p.1 ?_).trans e, n, ne, nf, d⟩
      intro q
      rw [q, hoc] at e
      have q' : oc = p.2 := Option.some.inj e
      exact d w' (by rw [← q']; exact hocd)
theorem store_ok {M : Model} {A : Around} {E : Value → Shared → Prop} {i : Nat} {x : Str} {v : V} {u : Value} {Q : Unit → Shared → Prop} (I : Inv X pins σ H s) (hN : X.N.Nodup) (hi : X.N[i]? = some x) (hx : Loc X.env.scope x) (r : RelV v u)
    (h : ∀ s', Inv X pins (σ.set i (some v)) H s' → Q () s') (hf : X.fn x = true ∨ X.env.scope.names.lookup x = some .local := by first | exact .inl rfl | exact .inr rfl | assumption) : wpAny M A (storeName X.env x u) Q E s :=
  store_ok2 I hN hi hx r (fun s' I' _ => h s' I') hf
/-- behind a call or a block, the state as it is -/
theorem Inv.call' {s' : Shared} {ch : List Addr} (I : Inv X pins σ H s) (ho : s'.os = s.os) (u : Un (frs X.stack) ch H H' s.heap s'.heap) (hok : HOk X.prog X.w H' s'.heap) (hg : AllBare s'.gens)
    (hch : ∀ b ∈ ch, (b ∈ X.ex ∨ X.s₀.heap.objs.size ≤ b) ∧ b ≠ X.env.locals ∧ (∀ x c, X.env.cells.lookup x = some c → c ≠ b) ∧ ∀ p ∈ X.pn ++ pins, p.1 ≠ b) : Inv X pins σ H' s' := by
  obtain ⟨h', g', d', t', o'⟩ := s'
  have e : o' = s.os := ho
  subst e
  exact I.call (g' := g') (t' := t') (d' := d') u hok hg hch
end

/-! ### the judgements -/
/-- an exception: its class, its own dict's address (where it has one), the abstract heap behind it -/
noncomputable abbrev XK := Value → Option Addr → Hp → Prop
noncomputable abbrev St := List (Option V)
noncomputable abbrev VK := V → Hp → Prop
/-- an expression's reading; a test's; an argument list's -/
noncomputable abbrev TE := St → Hp → VK → Prop
noncomputable abbrev TT := St → Hp → (Bool → Hp → Prop) → Prop
noncomputable abbrev TA := St → Hp → (List V → Hp → Prop) → Prop
/-- what is wanted behind a statement -/
structure Ends where
  nx : St → Hp → Prop
  rt : VK
  bk : St → Hp → Prop := fun _ _ => False
  ct : St → Hp → Prop := fun _ _ => False
noncomputable abbrev TS := Ends → St → Hp → Prop

noncomputable def EP (X : Cx) (pins : List (Addr × Obj)) (σ : St) (Q : VK) (u : Value) (s' : Shared) : Prop := ∃ v H', Inv X pins σ H' s' ∧ RelV v u ∧ Q v H'
noncomputable def TP (X : Cx) (pins : List (Addr × Obj)) (σ : St) (Q : Bool → Hp → Prop) (b : Bool) (s' : Shared) : Prop := ∃ H', Inv X pins σ H' s' ∧ Q b H'
noncomputable def AP (X : Cx) (pins : List (Addr × Obj)) (σ : St) (Q : List V → Hp → Prop) (us : List Value) (s' : Shared) : Prop := ∃ vs H', Inv X pins σ H' s' ∧ Vals vs us ∧ Q vs H'
noncomputable def SP (X : Cx) (pins : List (Addr × Obj)) (D : Ends) (f : Flow) (s' : Shared) : Prop :=
  match f with
  | .next => ∃ σ' H', Inv X pins σ' H' s' ∧ D.nx σ' H'
  | .brk => ∃ σ' H', Inv X pins σ' H' s' ∧ D.bk σ' H'
  | .cont => ∃ σ' H', Inv X pins σ' H' s' ∧ D.ct σ' H'
  | .ret u => ∃ v σ' H', Inv X pins σ' H' s' ∧ RelV v u ∧ D.rt v H'

noncomputable def PE (X : Cx) (e : Expr) (t : TE) : Prop :=
  ∀ (pins : List (Addr × Obj)) (s : Shared) (σ : St) (H : Hp) (Q : VK), Inv X pins σ H s → t σ H Q → wpAny (model X.prog X.w) X.A (eval e X.env) (EP X pins σ Q) X.xe s
noncomputable def PT (X : Cx) (e : Expr) (t : TT) : Prop :=
  ∀ (pins : List (Addr × Obj)) (s : Shared) (σ : St) (H : Hp) (Q : Bool → Hp → Prop), Inv X pins σ H s → t σ H Q → wpAny (model X.prog X.w) X.A (isTrue e X.env (eval e X.env)) (TP X pins σ Q) X.xe s
/-- a test whatever its 'whole' is (and, or) -/
noncomputable def PW (X : Cx) (e : Expr) (t : TT) : Prop :=
  ∀ (whole : Sem Value) (pins : List (Addr × Obj)) (s : Shared) (σ : St) (H : Hp) (Q : Bool → Hp → Prop), Inv X pins σ H s → t σ H Q → wpAny (model X.prog X.w) X.A (isTrue e X.env whole) (TP X pins σ Q) X.xe s
theorem PW.pt {X : Cx} {e : Expr} {t : TT} (h : PW X e t) : PT X e t := h _
/-- an argument list (no star), from the left -/
noncomputable def PA (X : Cx) (es : List Expr) (t : TA) : Prop :=
  ∀ (pos : Pos) (pins : List (Addr × Obj)) (s : Shared) (σ : St) (H : Hp) (Q : List V → Hp → Prop), Inv X pins σ H s → t σ H Q → wpAny (model X.prog X.w) X.A (spliced (backTo pos (starEach es X.env))) (AP X pins σ Q) X.xe s
noncomputable def PS (X : Cx) (st : Stmt) (t : TS) : Prop :=
  ∀ (pins : List (Addr × Obj)) (s : Shared) (σ : St) (H : Hp) (D : Ends), Inv X pins σ H s → t D σ H → wpAny (model X.prog X.w) X.A (exec st X.env) (SP X pins D) X.xe s
noncomputable def PSs (X : Cx) (st : List Stmt) (t : TS) : Prop :=
  ∀ (pins : List (Addr × Obj)) (s : Shared) (σ : St) (H : Hp) (D : Ends), Inv X pins σ H s → t D σ H → wpAny (model X.prog X.w) X.A (execs st X.env) (SP X pins D) X.xe s
/-- weaken the end -/
theorem thn {α : Type} {t : Sem α} {Q Q' : α → Shared → Prop} {M : Model} {A : Around} {E : Value → Shared → Prop} {s : Shared} (h : wpAny M A t Q E s) (hQ : ∀ a s, Q a s → Q' a s) : wpAny M A t Q' E s := wpAny_mono h hQ fun _ _ x => x
end L2

namespace L2
open PySem PySem.Spec PyProof.Rows
section
variable {X : Cx}

/-! ### names and constants -/
noncomputable def tVar (i : Nat) : TE := fun σ H Q => ∃ v, σ[i]? = some (some v) ∧ Q v H
noncomputable def tC (v : V) : TE := fun _ H Q => Q v H
theorem pe_var {i : Nat} {x : Str} {pos : Pos} (hN : X.N[i]? = some x) (hv : Vis X.env.scope x) (hd : (x == ("__debug__" : Str)) = false := by decide) (hcd : (x == ("__classdict__" : Str)) = false := by decide) : PE X (.Name x pos) (tVar i) := by
  intro pins s σ H Q I h
  obtain ⟨v, e, h⟩ := h
  obtain ⟨m, hn, hl⟩ := I.loc
  obtain ⟨u, r, l⟩ := hl i x v hN e hv
  have fin : EP X pins σ Q u s := ⟨v, H, I, r, h⟩
  rcases l with ⟨hk, hm⟩ | ⟨hk, c, hc, hcell⟩
  · exact wpAny_Name (wpAny_loadName_local I.ok.kind hk hn hm fin) hd
  · rcases hk with hk | hk
    · exact wpAny_Name (wpAny_loadName_cell I.ok.kind hk hc hcell fin) hd
    · exact wpAny_Name (wpAny_loadName_free I.ok.kind hk hc hcell fin hcd) hd
theorem pe_int {i j pos} : PE X (.Constant (.int i) j pos) (tC (.int i)) := fun _ _ _ H _ I h => wpAny_Constant_int ⟨.int i, H, I.tok _, ⟨_, rfl⟩, h⟩
theorem pe_bl {b j pos} : PE X (.Constant (.bool b) j pos) (tC (.bl b)) := fun _ _ _ H _ I h => Constant_bool ⟨.bl b, H, I, rfl, h⟩
theorem pe_str {x j pos} : PE X (.Constant (.str x) j pos) (tC (.str x)) := fun _ _ _ H _ I h => Calls.Constant_str ⟨.str x, H, I.tok _, ⟨_, rfl⟩, h⟩

/-- a global name of the def -/
noncomputable def Gl (X : Cx) (x : Str) : Prop := X.env.kindOf x = some .globalImplicit
theorem ld_glob {E : Value → Shared → Prop} {pins : List (Addr × Obj)} {s : Shared} {σ : St} {H : Hp} {x : Str} {u : Value} {pos : Pos} {Q : Value → Shared → Prop} (I : Inv X pins σ H s) (hg : Gl X x) (hm : X.mg x = some u) (h : Q u s)
    (hd : (x == ("__debug__" : Str)) = false := by decide) : wpAny (model X.prog X.w) X.A (eval (.Name x pos) X.env) Q E s :=
  Calls.Name_function_global I.ok.kind hg (Calls.loadGlobal_global (by rw [I.ok.glob]; exact I.mod.glob.keeps I.bk) hm h) hd
theorem ld_blt {E : Value → Shared → Prop} {pins : List (Addr × Obj)} {s : Shared} {σ : St} {H : Hp} {x : Str} {u : Value} {pos : Pos} {Q : Value → Shared → Prop} (I : Inv X pins σ H s) (hg : Gl X x) (hm : X.mg x = none) (hv : bootBuiltins x = some u) (h : Q u s)
    (hn : x ≠ "__name__" := by decide) (hd : (x == ("__debug__" : Str)) = false := by decide) : wpAny (model X.prog X.w) X.A (eval (.Name x pos) X.env) Q E s := by
  obtain ⟨mb, h1, h2⟩ := I.mod.blt
  exact Calls.Name_function_global I.ok.kind hg (Calls.loadGlobal_builtin (by rw [I.ok.glob]; exact I.mod.glob.keeps I.bk) hm (by rw [I.ok.blt]; exact h1.keeps I.bk) ((h2 x hn).trans hv) h) hd
/-- a module's constant, a class, a function, as a value -/
theorem pe_glob {x : Str} {v : V} {u : Value} {pos : Pos} (hg : Gl X x) (hm : X.mg x = some u) (r : RelV v u) (hd : (x == ("__debug__" : Str)) = false := by decide) : PE X (.Name x pos) (tC v) :=
  fun _ _ _ H _ I h => ld_glob I hg hm ⟨v, H, I, r, h⟩ hd
theorem pe_bltn {x : Str} {v : V} {u : Value} {pos : Pos} (hg : Gl X x) (hm : X.mg x = none) (hv : bootBuiltins x = some u) (r : RelV v u) (hn : x ≠ "__name__" := by decide) (hd : (x == ("__debug__" : Str)) = false := by decide) : PE X (.Name x pos) (tC v) :=
  fun _ _ _ H _ I h => ld_blt I hg hm hv ⟨v, H, I, r, h⟩ hn hd

/-! ### arithmetic -/
/-- two ints -/
noncomputable def t2I (ta tb : TE) (k : Int → Int → Hp → Prop) : St → Hp → Prop := fun σ H => ta σ H fun x H1 => tb σ H1 fun y H2 => ∃ i j, x = .int i ∧ y = .int j ∧ k i j H2
noncomputable def tAdd (ta tb : TE) : TE := fun σ H Q => t2I ta tb (fun i j H2 => Q (.int (i + j)) H2) σ H
noncomputable def tSub (ta tb : TE) : TE := fun σ H Q => t2I ta tb (fun i j H2 => Q (.int (i - j)) H2) σ H
/-- the left factor below 2^64 -/
noncomputable def tMul (ta tb : TE) : TE := fun σ H Q => t2I ta tb (fun i j H2 => (-(2 ^ 64) < i ∧ i < 2 ^ 64) ∧ Q (.int (i * j)) H2) σ H
variable {a b : Expr} {ta tb : TE} {pos : Pos}
/-! ### comparisons -/
noncomputable def PC (X : Cx) (op : CmpOp) (a b : Expr) (t : TE) : Prop :=
  ∀ (pins : List (Addr × Obj)) (s : Shared) (σ : St) (H : Hp) (Q : VK), Inv X pins σ H s → t σ H Q →
    wpAny (model X.prog X.w) X.A (eval a X.env) (fun v s₁ => wpAny (model X.prog X.w) X.A (eval b X.env) (fun u s₂ => wpAny (model X.prog X.w) X.A (compareOp op v u) (EP X pins σ Q) X.xe s₂) X.xe s₁) X.xe s
noncomputable def tCmp (p : Int → Int → Bool) (ta tb : TE) : TE := fun σ H Q => t2I ta tb (fun i j H2 => Q (.bl (p i j)) H2) σ H
noncomputable abbrev tLt : TE → TE → TE := tCmp fun i j => decide (i < j)
noncomputable abbrev tLe : TE → TE → TE := tCmp fun i j => decide (i ≤ j)
noncomputable abbrev tGt : TE → TE → TE := tCmp fun i j => decide (j < i)
noncomputable abbrev tGe : TE → TE → TE := tCmp fun i j => decide (j ≤ i)
noncomputable abbrev tEqI : TE → TE → TE := tCmp fun i j => decide (i = j)
noncomputable abbrev tNeI : TE → TE → TE := tCmp fun i j => !decide (i = j)
/-- is None -/
noncomputable def tIsN (ta : TE) : TE := fun σ H Q => ta σ H fun x H1 => Q (.bl (decide (x = .non))) H1
noncomputable def tNotN (ta : TE) : TE := fun σ H Q => ta σ H fun x H1 => Q (.bl (!decide (x = .non))) H1
/-- a comparison as a value, as a test -/
noncomputable def tB (t : TE) : TT := fun σ H Q => t σ H fun x H1 => ∃ c, x = .bl c ∧ Q c H1
/-- an expression whose value is a bool, as a test -/
theorem pt_val {e : Expr} {t : TE} (h : PE X e t) (he : ∀ whole, isTrue e X.env whole = (do let v ← whole; standAt e.pos; holding [v] (truthy v)) := by intro _; rfl) : PT X e (tB t) := by
  intro pins s σ H Q I hw
  refine isTrue_plain (thn (h pins s σ H _ I hw) fun v s1 ⟨x, H1, I1, r1, q1⟩ => ?_) (he _)
  obtain ⟨d, rfl, q⟩ := q1
  cases r1
  exact wpAny_truthy_bool ⟨H1, I1, q⟩

/-! ### and, or, not -/
variable {tA tB' : TT} {rest : List Expr}
noncomputable def tAnd (t u : TT) : TT := fun σ H Q => t σ H fun c H1 => if c = true then u σ H1 Q else Q false H1
noncomputable def tOr (t u : TT) : TT := fun σ H Q => t σ H fun c H1 => if c = true then Q true H1 else u σ H1 Q
noncomputable def tNot (t : TT) : TT := fun σ H Q => t σ H fun c H1 => Q (!c) H1
theorem pw_or1 (ha : PT X a tA) : PW X (.BoolOp .Or [a] pos) tA := by
  intro wh pins s σ H Q I h
  refine isTrue_or (thn (ha pins s σ H Q I h) fun c s1 e => ?_)
  cases c with
  | false => exact isTrue_or_nil e
  | true => exact e
theorem pw_or (ha : PT X a tA) (hb : PW X (.BoolOp .Or (b :: rest) pos) tB') : PW X (.BoolOp .Or (a :: b :: rest) pos) (tOr tA tB') := by
  intro wh pins s σ H Q I h
  refine isTrue_or (thn (ha pins s σ H _ I h) fun c s1 ⟨H1, I1, q1⟩ => ?_)
  cases c with
  | true => exact ⟨H1, I1, q1⟩
  | false => exact hb wh pins s1 σ H1 Q I1 q1
theorem pt_not (ha : PT X a tA) : PT X (.UnaryOp .Not a pos) (tNot tA) := by
  intro pins s σ H Q I h
  exact isTrue_not (ha pins s σ H (fun c H1 => Q (!c) H1) I h)
/-- .. as values (bools) -/
noncomputable def tAndV (ta tb : TE) : TE := fun σ H Q => ta σ H fun x H1 => ∃ c, x = .bl c ∧ if c = true then tb σ H1 Q else Q (.bl false) H1
noncomputable def tOrV (ta tb : TE) : TE := fun σ H Q => ta σ H fun x H1 => ∃ c, x = .bl c ∧ if c = true then Q (.bl true) H1 else tb σ H1 Q
noncomputable def tNotV (ta : TE) : TE := fun σ H Q => ta σ H fun x H1 => ∃ c, x = .bl c ∧ Q (.bl (!c)) H1
theorem pe_one {op} {t : TE} (h : PE X a t) : PE X (.BoolOp op [a] pos) t := fun pins s σ H Q I hw => BoolOp_one (h pins s σ H Q I hw)
theorem pe_and (ha : PE X a ta) (hb : PE X (.BoolOp .And (b :: rest) pos) tb) : PE X (.BoolOp .And (a :: b :: rest) pos) (tAndV ta tb) := by
  intro pins s σ H Q I h
  refine BoolOp_and (thn (ha pins s σ H _ I h) fun v s1 ⟨x, H1, I1, r1, q1⟩ => ?_)
  obtain ⟨c, rfl, q1⟩ := q1
  cases r1
  refine wpAny_truthy_bool ?_
  cases c with
  | true => exact hb pins s1 σ H1 Q I1 q1
  | false => exact ⟨.bl false, H1, I1, rfl, q1⟩
theorem pe_not (ha : PE X a ta) : PE X (.UnaryOp .Not a pos) (tNotV ta) := by
  intro pins s σ H Q I h
  refine UnaryOp_ (thn (ha pins s σ H _ I h) fun v s1 ⟨x, H1, I1, r1, q1⟩ => ?_)
  obtain ⟨c, rfl, q1⟩ := q1
  cases r1
  exact not_of (wpAny_truthy_bool ⟨.bl (!c), H1, I1, rfl, q1⟩)
/-- a if t else b -/
noncomputable def tIf (t : TT) (ta tb : TE) : TE := fun σ H Q => t σ H fun c H1 => if c = true then ta σ H1 Q else tb σ H1 Q
end
end L2

namespace L2
open PySem PySem.Spec PyProof.Rows

/-! ### a list, a tuple that is read: tracked, frozen, or an object of the module -/
noncomputable def SqL (K : PySem.W.Frag) (H : Hp) (a : Addr) (xs : List V) : Prop :=
  Rd H a (.lst xs) ∨
    ∃ (o : Obj) (its : Array Value) (n : Nat), K.lookup a = some o ∧ o.cls = .type "list" ∧ o.dict = none ∧ o.data = .seq its n ∧ its.size ≤ sizeLine ∧ Vals xs its.toList
noncomputable def SqT (K : PySem.W.Frag) (H : Hp) (a : Addr) (xs : List V) : Prop :=
  Rd H a (.tup xs) ∨
    ∃ (o : Obj) (its : Array Value) (n : Nat), K.lookup a = some o ∧ o.cls = .type "tuple" ∧ o.data = .seq its n ∧ its.size ≤ sizeLine ∧ Vals xs its.toList
noncomputable def absV : Value → Option V
  | .none => some .non
  | .bool b => some (.bl b)
  | .int i _ => some (.int i)
  | .str x _ => some (.str x)
  | .bytes b _ => some (.byt b)
  | .float b _ => some (.flt b)
  | .ref a => some (.ref a)
  | .type n => some (.ty n)
  | _ => none
theorem RelV.abs {x : V} {u : Value} (r : RelV x u) : absV u = some x := by
  cases x with
  | non => cases r; rfl
  | bl _ => cases r; rfl
  | int _ => obtain ⟨t, rfl⟩ := r; rfl
  | str _ => obtain ⟨t, rfl⟩ := r; rfl
  | byt _ => obtain ⟨t, rfl⟩ := r; rfl
  | flt _ => obtain ⟨t, rfl⟩ := r; rfl
  | ref _ => cases r; rfl
  | ty _ => cases r; rfl
theorem RelV.inj {x y : V} {u : Value} (r : RelV x u) (q : RelV y u) : x = y := Option.some.inj (r.abs.symm.trans q.abs)
theorem Vals.inj : ∀ {xs ys : List V} {us : List Value}, Vals xs us → Vals ys us → xs = ys
  | _, _, _, .nil, .nil => rfl
  | _, _, _, .cons r t, .cons r' t' => by rw [r.inj r', Vals.inj t t']
section
variable {X : Cx} {pins : List (Addr × Obj)} {σ : St} {H : Hp} {s : Shared} {a : Addr} {xs ys : List V}
theorem SqL.of {K : PySem.W.Frag} (h : H a = some (.lst xs)) : SqL K H a xs := .inl (.inl h)
theorem Inv.list (I : Inv X pins σ H s) (h : SqL X.K H a xs) : ∃ its : List Value, Vals xs its ∧ PlainL s.heap a its.toArray ∧ xs.length ≤ sizeLine := by
  rcases h with h | ⟨o, its, n, hk, hc, hd, hs, hz, r⟩
  · obtain ⟨z, its, n, r, e⟩ := h.ok I.hok
    exact ⟨its, r, ⟨_, n, e, rfl, rfl, rfl⟩, z⟩
  · refine ⟨its.toList, r, ⟨o, n, I.kIn a o hk, hc, hd, by simpa using hs⟩, ?_⟩
    have e := r.length
    simp only [Array.length_toList] at e
    (clear hs hd hc hk; omega)
theorem Inv.tuple (I : Inv X pins σ H s) (h : SqT X.K H a xs) : ∃ its : List Value, Vals xs its ∧ IsTup s.heap a its.toArray ∧ xs.length ≤ sizeLine := by
  rcases h with h | ⟨o, its, n, hk, hc, hs, hz, r⟩
  · obtain ⟨z, its, r, p⟩ := h.ok I.hok
    exact ⟨its, r, p, z⟩
  · refine ⟨its.toList, r, ⟨o, I.kIn a o hk, hc, n, by simpa using hs⟩, ?_⟩
    have e := r.length
    simp only [Array.length_toList] at e
    (clear hs hc hk; omega)
theorem Inv.list_inj (I : Inv X pins σ H s) (h : SqL X.K H a xs) (h' : SqL X.K H a ys) : xs = ys := by
  obtain ⟨its, r, ⟨o, n, e, _, _, d⟩, _⟩ := I.list h
  obtain ⟨its', r', ⟨o', n', e', _, _, d'⟩, _⟩ := I.list h'
  rw [e] at e'; cases e'
  rw [d] at d'
  injection d' with d1 _
  have : its = its' := by simpa using congrArg Array.toList d1
  subst this
  exact r.inj r'
theorem Inv.tuple_inj (I : Inv X pins σ H s) (h : SqT X.K H a xs) (h' : SqT X.K H a ys) : xs = ys := by
  obtain ⟨its, r, ⟨o, e, _, n, d⟩, _⟩ := I.tuple h
  obtain ⟨its', r', ⟨o', e', _, n', d'⟩, _⟩ := I.tuple h'
  rw [e] at e'; cases e'
  rw [d] at d'
  injection d' with d1 _
  have : its = its' := by simpa using congrArg Array.toList d1
  subst this
  exact r.inj r'
end

/-! ### another wish about exceptions -/
noncomputable abbrev Cx.wish (X : Cx) (E : Value → Shared → Prop) : Cx := { X with xe := E }
/-- no exception leaves -/
noncomputable abbrev Cx.nox (X : Cx) : Cx := X.wish fun _ _ => False
theorem Cx.Ok.wish {X : Cx} (ok : X.Ok) (E : Value → Shared → Prop) : (X.wish E).Ok :=
  ⟨ok.mod, ok.kind, ok.glob, ok.blt, ok.above, ok.inj, ok.has, ok.cab, ok.hd, ok.frames, ok.stk, ok.exf, ok.bs, ok.bsz, ok.noex, ok.exfs, ok.funs, ok.frf⟩
theorem Cx.Ok.unwish {X : Cx} {E : Value → Shared → Prop} (ok : (X.wish E).Ok) : X.Ok :=
  ⟨ok.mod, ok.kind, ok.glob, ok.blt, ok.above, ok.inj, ok.has, ok.cab, ok.hd, ok.frames, ok.stk, ok.exf, ok.bs, ok.bsz, ok.noex, ok.exfs, ok.funs, ok.frf⟩
section
variable {X : Cx} {pins : List (Addr × Obj)} {σ : St} {H : Hp} {s : Shared} {E : Value → Shared → Prop}
theorem Inv.wish (I : Inv X pins σ H s) (E : Value → Shared → Prop) : Inv (X.wish E) pins σ H s := ⟨I.ok.wish E, I.os, I.bare, I.base, I.loc, I.cell, I.free, I.freeC, I.pin, I.hok, I.len⟩
theorem Inv.unwish (I : Inv (X.wish E) pins σ H s) : Inv X pins σ H s := ⟨I.ok.unwish, I.os, I.bare, I.base, I.loc, I.cell, I.free, I.freeC, I.pin, I.hok, I.len⟩
theorem SP.unwish {D : Ends} {f : Flow} {s' : Shared} (h : SP (X.wish E) pins D f s') : SP X pins D f s' := by
  cases f with
  | next => obtain ⟨σ', H', I, q⟩ := h; exact ⟨σ', H', I.unwish, q⟩
  | brk => obtain ⟨σ', H', I, q⟩ := h; exact ⟨σ', H', I.unwish, q⟩
  | cont => obtain ⟨σ', H', I, q⟩ := h; exact ⟨σ', H', I.unwish, q⟩
  | ret u => obtain ⟨v, σ', H', I, r, q⟩ := h; exact ⟨v, σ', H', I.unwish, r, q⟩
theorem PSs.nox {st : List Stmt} {t : TS} (h : PSs X.nox st t) : PSs X st t := fun pins s σ H D I hw =>
  wpAny_mono (h pins s σ H D (I.wish _) hw) (fun _ _ q => q.unwish) fun _ _ z => False.elim z
end

/-! ### blocks and small statements -/
section
variable {X : Cx} {st : Stmt} {rest : List Stmt} {t u : TS} {e : Expr} {te : TE} {pos : Pos}
noncomputable def tNext : TS := fun D σ H => D.nx σ H
noncomputable def tSeq (t u : TS) : TS := fun D σ H => t { D with nx := u D } σ H
theorem pss_nil : PSs X [] tNext := fun _ _ σ H _ I h => wpAny_execs_nil ⟨σ, H, I, h⟩
theorem pss_cons (h1 : PS X st t) (h2 : PSs X rest u) : PSs X (st :: rest) (tSeq t u) := by
  intro pins s σ H D I h
  refine wpAny_execs_cons (thn (h1 pins s σ H { D with nx := u D } I h) fun f s1 q => ?_)
  cases f with
  | next =>
    obtain ⟨σ', H', I', q⟩ := q
    exact h2 pins s1 σ' H' D I' q
  | ret v => exact q
  | brk => exact q
  | cont => exact q
theorem pss_one (h1 : PS X st t) : PSs X [st] t := by
  intro pins s σ H D I h
  refine wpAny_execs_cons (thn (h1 pins s σ H D I h) fun f s1 q => ?_)
  cases f with
  | next => exact wpAny_execs_nil q
  | ret v => exact q
  | brk => exact q
  | cont => exact q
noncomputable def tBreak : TS := fun D σ H => D.bk σ H
noncomputable def tCont : TS := fun D σ H => D.ct σ H
/-- in a def's body nothing is shown -/
theorem Inv.quiet {pins : List (Addr × Obj)} {σ : St} {H : Hp} {s : Shared} (I : Inv X pins σ H s) : interactive X.env = false := by simp [interactive, I.ok.kind]
/-- an expression whose value is dropped -/
noncomputable def tDrop (te : TE) : TS := fun D σ H => te σ H fun _ H1 => D.nx σ H1
theorem ps_expr (he : PE X e te) (hs : swapsWith e none pos.line X.env = pure false := by rfl) : PS X (.Expr e pos) (tDrop te) := by
  intro pins s σ H D I h
  exact wpAny_Expr_any (thn (he pins s σ H _ I h) fun v s1 ⟨x, H1, I1, r1, q1⟩ => ⟨σ, H1, I1, q1⟩) I.quiet hs
noncomputable def tRet (te : TE) : TS := fun D σ H => te σ H D.rt
theorem ps_ret (he : PE X e te) : PS X (.Return (some e) pos) (tRet te) := by
  intro pins s σ H D I h
  exact wpAny_Return_some (thn (he pins s σ H _ I h) fun v s1 ⟨x, H1, I1, r1, q1⟩ => ⟨x, σ, H1, I1, r1, q1⟩)
noncomputable def tRetN : TS := fun D _ H => D.rt .non H
noncomputable def tIfS (c : TT) (t u : TS) : TS := fun D σ H => c σ H fun b H1 => if b = true then t D σ H1 else u D σ H1
theorem ps_if {c : Expr} {a b : List Stmt} {tc : TT} (hc : PT X c tc) (ha : PSs X a t) (hb : PSs X b u) : PS X (.If c a b pos) (tIfS tc t u) := by
  intro pins s σ H D I h
  refine wpAny_If (thn (hc pins s σ H _ I h) fun d s1 ⟨H1, I1, q1⟩ => ?_)
  cases d with
  | true => exact ha pins s1 σ H1 D I1 q1
  | false => exact hb pins s1 σ H1 D I1 q1
/-- code that the proof never comes to -/
noncomputable def tNever : TS := fun _ _ _ => False
theorem ps_never : PS X st tNever := fun _ _ _ _ _ _ h => h.elim
end

/-! ### targets -/
noncomputable abbrev TG := V → St → Hp → (St → Hp → Prop) → Prop
noncomputable abbrev TGs := List V → St → Hp → (St → Hp → Prop) → Prop
noncomputable def PG (X : Cx) (target : Expr) (t : TG) : Prop :=
  ∀ (pins : List (Addr × Obj)) (s : Shared) (σ : St) (H : Hp) (v : V) (u : Value) (Q : St → Hp → Prop), Inv X pins σ H s → RelV v u → t v σ H Q →
    wpAny (model X.prog X.w) X.A (assign target X.env u) (fun _ s' => ∃ σ' H', Inv X pins σ' H' s' ∧ Q σ' H') X.xe s
/-- several targets, one after another -/
noncomputable def PGs (X : Cx) (ts : List Expr) (t : TGs) : Prop :=
  ∀ (pins : List (Addr × Obj)) (s : Shared) (σ : St) (H : Hp) (vs : List V) (us : List Value) (Q : St → Hp → Prop), Inv X pins σ H s → Vals vs us → t vs σ H Q →
    wpAny (model X.prog X.w) X.A (assignInOrder ((assignEach ts X.env).map (·.2)) us) (fun _ s' => ∃ σ' H', Inv X pins σ' H' s' ∧ Q σ' H') X.xe s
/-- o[i] = v, by values -/
noncomputable abbrev TSet := V → V → V → Hp → (Hp → Prop) → Prop
noncomputable def PSet (X : Cx) (t : TSet) : Prop :=
  ∀ (pins : List (Addr × Obj)) (s : Shared) (σ : St) (H : Hp) (o i v : V) (ov iv u : Value) (Q : Hp → Prop), Inv X pins σ H s → RelV o ov → RelV i iv → RelV v u → t o i v H Q →
    wpAny (model X.prog X.w) X.A (setItem ov iv u) (fun _ s' => ∃ H', Inv X pins σ H' s' ∧ Q H') X.xe s
/-- a op= b, by values -/
noncomputable abbrev TIp := V → V → Hp → VK → Prop
noncomputable def PIp (X : Cx) (op : Operator) (t : TIp) : Prop :=
  ∀ (pins : List (Addr × Obj)) (s : Shared) (σ : St) (H : Hp) (x y : V) (v u : Value) (Q : VK), Inv X pins σ H s → RelV x v → RelV y u → t x y H Q →
    wpAny (model X.prog X.w) X.A (inplaceOp op v u) (EP X pins σ Q) X.xe s
section
variable {X : Cx} {pos : Pos}
noncomputable def gName (i : Nat) : TG := fun v σ H Q => Q (σ.set i (some v)) H
theorem pg_name {i : Nat} {x : Str} (hN : X.N.Nodup) (hi : X.N[i]? = some x) (hx : Loc X.env.scope x) (hf : X.fn x = true ∨ X.env.scope.names.lookup x = some .local := by first | exact .inl rfl | exact .inr rfl | assumption) : PG X (.Name x pos) (gName i) := by
  intro pins s σ H v u Q I r h
  exact wpAny_assign_Name (store_ok I hN hi hx r (fun s' I' => ⟨_, H, I', h⟩) hf)
noncomputable def gNil : TGs := fun vs σ H Q => vs = [] ∧ Q σ H
noncomputable def gCons (t : TG) (u : TGs) : TGs := fun vs σ H Q => ∃ v r, vs = v :: r ∧ t v σ H fun σ' H' => u r σ' H' Q
theorem pgs_nil : PGs X [] gNil := by
  intro pins s σ H vs us Q I r h
  obtain ⟨e, h⟩ := h
  subst e
  cases r
  exact assignInOrder_nil ⟨σ, H, I, h⟩
theorem pgs_cons {e : Expr} {es : List Expr} {t : TG} {u : TGs} (h1 : PG X e t) (h2 : PGs X es u)
    (hs : (assignEach (e :: es) X.env).map (·.2) = assign e X.env :: (assignEach es X.env).map (·.2) := by rfl) : PGs X (e :: es) (gCons t u) := by
  intro pins s σ H vs us Q I r h
  obtain ⟨v, vr, e1, h⟩ := h
  subst e1
  cases r with
  | cons r rr =>
    rw [hs]
    refine assignInOrder_cons (thn (h1 pins s σ H _ _ _ I r h) fun _ s1 ⟨σ1, H1, I1, q1⟩ => ?_)
    exact h2 pins s1 σ1 H1 _ _ Q I1 rr q1
/-- (a, b, ..) = a tuple of that length -/
noncomputable def gTup (K : PySem.W.Frag) (n : Nat) (t : TGs) : TG := fun v σ H Q => ∃ a xs, v = .ref a ∧ SqT K H a xs ∧ xs.length = n ∧ t xs σ H Q
theorem pg_tup {es : List Expr} {k : Nat} {t : TGs} {n : Nat} (hc : X.calm = true) (h : PGs X es t)
    (hn : (assignEach es X.env).length = n := by rfl) (hst : (assignEach es X.env).findIdx? (·.1) = none := by rfl) : PG X (.Tuple es k pos) (gTup X.K n t) := by
  intro pins s σ H v u Q I r hw
  obtain ⟨a, xs, e1, hq, hl, hw⟩ := hw
  subst e1
  cases r
  obtain ⟨its, rv, ht, hz⟩ := I.tuple hq
  refine assign_Tuple_tuple (I.ok.hd hc) ht (by simp [hn, ← hl, rv.length]) hst fun h' hx => ?_
  have I1 : Inv X pins σ H { s with heap := h' } := I.kept (t' := s.toks) fun b o e => hx b o (Nat.ne_of_lt (Heap.lt_size e)) e
  exact h pins _ σ H xs _ Q I1 (by simpa using rv) hw
/-- o[i] = .. -/
noncomputable def gSub (to ti : TE) (t : TSet) : TG := fun v σ H Q => to σ H fun o H1 => ti σ H1 fun i H2 => t o i v H2 fun H3 => Q σ H3
theorem pg_sub {o i : Expr} {to ti : TE} {t : TSet} (ho : PE X o to) (hi : PE X i ti) (hs : PSet X t)
    (ha : ∀ v, assign (.Subscript o i pos) X.env v = (do
      let ov ← holding [v] (eval o X.env)
      let iv ← holding [v, ov] (eval i X.env)
      standAt pos
      holding [v, ov, iv] (setItem ov iv v)
      release [v, ov, iv] []) := by intro _; rfl) : PG X (.Subscript o i pos) (gSub to ti t) := by
  intro pins s σ H v u Q I r h
  rw [ha]
  refine wpAny_bind (wpAny_holding (thn (ho pins s σ H _ I h) fun ov s1 ⟨x, H1, I1, r1, q1⟩ => ?_))
  refine wpAny_bind (wpAny_holding (thn (hi pins s1 σ H1 _ I1 q1) fun iv s2 ⟨y, H2, I2, r2, q2⟩ => ?_))
  refine wpAny_bind (wpAny_standAt (wpAny_bind (wpAny_holding (thn (hs pins s2 σ H2 x y v ov iv u _ I2 r1 r2 r q2) fun _ s3 ⟨H3, I3, q3⟩ => ?_))))
  exact wpAny_release ⟨σ, H3, I3, q3⟩
/-- target = value -/
noncomputable def tAsg (te : TE) (g : TG) : TS := fun D σ H => te σ H fun x H1 => g x σ H1 D.nx
theorem ps_asg {tg e : Expr} {te : TE} {g : TG} (he : PE X e te) (hg : PG X tg g) (hs : swapsWithSole [tg] e pos.line X.env = pure false := by rfl) (hw : swappedStores [tg] e X.env = pure none := by rfl)
    (h1 : (assignEach [tg] X.env).map (·.2) = [assign tg X.env] := by rfl) : PS X (.Assign [tg] e pos) (tAsg te g) := by
  intro pins s σ H D I h
  refine wpAny_Assign_stores (thn (he pins s σ H _ I h) fun v s1 ⟨x, H1, I1, r1, q1⟩ => ?_) hs hw
  rw [h1]
  exact thn (hg pins s1 σ H1 x v _ I1 r1 q1) fun _ s2 q => q
/-- name = value -/
theorem ps_set {i : Nat} {x : Str} {e : Expr} {te : TE} {pos' : Pos} (hN : X.N.Nodup) (hi : X.N[i]? = some x) (hx : Loc X.env.scope x) (he : PE X e te) (hs : swapsWith e (some (.Name x pos')) pos.line X.env = pure false := by rfl) (hf : X.fn x = true ∨ X.env.scope.names.lookup x = some .local := by first | exact .inl rfl | exact .inr rfl | assumption) :
    PS X (.Assign [.Name x pos'] e pos) (tAsg te (gName i)) := by
  intro pins s σ H D I h
  refine wpAny_Assign_Name (thn (he pins s σ H _ I h) fun v s1 ⟨y, H1, I1, r1, q1⟩ => ?_) hs
  exact store_ok I1 hN hi hx r1 (fun s2 I2 => ⟨_, H1, I2, q1⟩) hf
/-- a, b = x, y with plain local names: stored from the right; the pair itself is not tracked (the opening rows as in PyProof/Rows/TupAssign.lean:23) -/
noncomputable def tPar (i j : Nat) (ta : TA) : TS := fun D σ H => ta σ H fun vs H1 => ∃ v w, vs = [v, w] ∧ D.nx ((σ.set i (some v)).set j (some w)) H1
/-- name op= e -/
noncomputable def tAug (i : Nat) (te : TE) (ti : TIp) : TS := fun D σ H => ∃ x, σ[i]? = some (some x) ∧ te σ H fun y H1 => ti x y H1 fun z H2 => D.nx (σ.set i (some z)) H2
/-- o[i] op= e -/
noncomputable def tAugS (to ti te : TE) (tget : V → V → Hp → VK → Prop) (tip : TIp) (tset : TSet) : TS := fun D σ H => to σ H fun o H1 => ti σ H1 fun i H2 => tget o i H2 fun x H3 => te σ H3 fun y H4 => tip x y H4 fun z H5 => tset o i z H5 fun H6 => D.nx σ H6
/-- o[i], by values -/
noncomputable def PGet (X : Cx) (t : V → V → Hp → VK → Prop) : Prop :=
  ∀ (pins : List (Addr × Obj)) (s : Shared) (σ : St) (H : Hp) (o i : V) (ov iv : Value) (Q : VK), Inv X pins σ H s → RelV o ov → RelV i iv → t o i H Q →
    wpAny (model X.prog X.w) X.A (getItem ov iv) (EP X pins σ Q) X.xe s
/-- ints -/
noncomputable def ipI (f : Int → Int → Int) : TIp := fun x y H Q => ∃ i j, x = .int i ∧ y = .int j ∧ Q (.int (f i j)) H
end

/-! ### while -/
section
variable {X : Cx} {pos : Pos}
/-- the invariant W with its measure -/
noncomputable def tWhile (c : TT) (tb : TS) : TS := fun D σ H => ∃ W : Nat → St → Hp → Prop, (∃ m, W m σ H) ∧ ∀ m σ H, W m σ H →
  c σ H fun b H1 => if b = true then ∃ N : St → Hp → Prop, (∀ σ' H', N σ' H' → ∃ m', m' < m ∧ W m' σ' H') ∧ tb { D with nx := N, ct := N, bk := D.nx } σ H1 else D.nx σ H1
theorem ps_while {c : Expr} {body : List Stmt} {tc : TT} {tb : TS} (hp : PassesOwn (model X.prog X.w) X.A X.env X.xe) (hc : PT X c tc) (hb : PSs X body tb) : PS X (.While c body [] pos) (tWhile tc tb) := by
  intro pins s σ H D I h
  obtain ⟨W, ⟨m0, w0⟩, turn⟩ := h
  refine wpAny_While (codeAny_whileLoop (fun n s' => ∃ σ' H', Inv X pins σ' H' s' ∧ W n σ' H') ?_ m0 ⟨σ, H, I, w0⟩)
  rintro n s1 ⟨σ1, H1, I1, w1⟩
  refine wpAny_passesOwn hp (thn (hc pins s1 σ1 H1 _ I1 (turn n σ1 H1 w1)) fun b s2 ⟨H2, I2, q2⟩ => ?_)
  cases b with
  | true =>
    obtain ⟨N, hN, q2⟩ := q2
    rw [if_pos rfl]
    refine wpAny_passesOwn hp (thn (hb pins s2 σ1 H2 _ I2 q2) fun f s3 q3 => ?_)
    cases f with
    | next =>
      obtain ⟨σ3, H3, I3, n3⟩ := q3
      obtain ⟨m', hm, w3⟩ := hN σ3 H3 n3
      exact ⟨m', hm, σ3, H3, I3, w3⟩
    | cont =>
      obtain ⟨σ3, H3, I3, n3⟩ := q3
      obtain ⟨m', hm, w3⟩ := hN σ3 H3 n3
      exact ⟨m', hm, σ3, H3, I3, w3⟩
    | brk => exact q3
    | ret v => exact q3
  | false =>
    rw [if_neg Bool.false_ne_true]
    exact wpAny_execs_nil ⟨σ1, H2, I2, q2⟩
end

/-! ### what a loop or a comprehension walks -/
/-- at turn i: it yields x (the heap may grow), or it stops -/
structure It where
  go : Nat → Hp → Prop
  yld : Nat → Hp → V → Hp → Prop
  stop : Nat → Hp → Prop
/-- the iterator's own objects may turn: they are not the frame's, not pinned, younger than the entry (or a comprehension's own) -/
noncomputable def FpOk (X : Cx) (pins : List (Addr × Obj)) (H : Hp) (b : Addr) : Prop :=
  H b = none ∧ b ≠ X.env.locals ∧ b ∉ X.fs ∧ (b ∈ X.ex ∨ X.s₀.heap.objs.size ≤ b) ∧ (∀ x c, X.env.cells.lookup x = some c → c ≠ b) ∧ ∀ p ∈ X.pn ++ pins, p.1 ≠ b
theorem Inv.fpOk {X : Cx} {pins : List (Addr × Obj)} {σ : St} {H H' : Hp} {s : Shared} {b : Addr} (I : Inv X pins σ H s) (hb : s.heap.objs.size ≤ b) (hn : H' b = none) : FpOk X pins H' b := by
  refine ⟨hn, Nat.ne_of_gt (Nat.lt_of_lt_of_le I.lt hb), I.nofs hb, .inr (Nat.le_trans I.sz hb), fun x c e z => ?_, fun p hp z => ?_⟩
  · obtain ⟨v, q⟩ := I.cell x c e
    exact absurd (Nat.lt_of_lt_of_le q.lt (by rw [z]; exact hb)) (Nat.lt_irrefl _)
  · exact absurd (Nat.lt_of_lt_of_le (Heap.lt_size (I.pin p hp).1) (by rw [z]; exact hb)) (Nat.lt_irrefl _)
structure Turn (P : Program) (w : World) (K : PySem.W.Frag) (tg : Expr) (J : It) (fp : List Addr) (it : Addr) (tn : Nat → Heap → Prop) : Prop where
  mem : it ∈ fp
  obj : ∀ i h, tn i h → ∀ b ∈ fp, ∃ o, h.get? b = some o ∧ ∀ v, o.data ≠ .cell v
  keep : ∀ i h h', tn i h → (∀ b ∈ fp, ∀ o, h.get? b = some o → h'.get? b = some o) → tn i h'
  item : ∀ (X : Cx), X.prog = P → X.w = w → X.K = K → X.calm = true → ∀ (i : Nat) (pins : List (Addr × Obj)) (s : Shared) (σ : St) (H : Hp) (E : Value → Shared → Prop), Inv X pins σ H s → (∀ b ∈ fp, FpOk X pins H b) → tn i s.heap → J.go i H →
    wpAny (model P w) X.A (pyNext (.ref it)) (fun r s1 => ∃ u, r = some u ∧
      wpAny (model P w) X.A (letOwnedTupleGo tg (.ref it) u) (fun _ s2 => ∃ x H', Inv X pins σ H' s2 ∧ RelV x u ∧ J.yld i H x H' ∧ tn (i + 1) s2.heap ∧ ∀ b ∈ fp, H' b = none) E s1) E s
  done : ∀ (X : Cx), X.prog = P → X.w = w → X.K = K → X.calm = true → ∀ (i : Nat) (pins : List (Addr × Obj)) (s : Shared) (σ : St) (H : Hp) (E : Value → Shared → Prop), Inv X pins σ H s → (∀ b ∈ fp, FpOk X pins H b) → tn i s.heap → J.stop i H →
    wpAny (model P w) X.A (pyNext (.ref it)) (fun r s1 => r = none ∧ Inv X pins σ H s1) E s
  self : ∀ (A : Around) (i : Nat) (s : Shared) (Q : Value → Shared → Prop) (E : Value → Shared → Prop), tn i s.heap → Q (.ref it) s → wpAny (model P w) A (pyIter (.ref it)) Q E s
noncomputable abbrev TI := St → Hp → (It → Hp → Prop) → Prop
/-- an iterator has come -/
noncomputable def PIE (X : Cx) (pins : List (Addr × Obj)) (σ : St) (tg : Expr) (R : It → Hp → Prop) (itv : Value) (s2 : Shared) : Prop :=
  ∃ (it : Addr) (fp : List Addr) (tn : Nat → Heap → Prop) (J : It) (H' : Hp), itv = .ref it ∧ Inv X pins σ H' s2 ∧ Turn X.prog X.w X.K tg J fp it tn ∧ tn 0 s2.heap ∧ (∀ b ∈ fp, FpOk X pins H' b) ∧ R J H'
noncomputable def PI (X : Cx) (tg iter : Expr) (wi : TI) : Prop :=
  ∀ (pins : List (Addr × Obj)) (s : Shared) (σ : St) (H : Hp) (R : It → Hp → Prop), Inv X pins σ H s → wi σ H R →
    wpAny (model X.prog X.w) X.A (eval iter X.env) (fun v s1 => wpAny (model X.prog X.w) X.A (pyIter v) (PIE X pins σ tg R) X.xe s1) X.xe s

/-- the step ahead of the store is nothing for an iterator that keeps no tuple -/
theorem go_of {M : Model} {A : Around} {E : Value → Shared → Prop} {s : Shared} {tg : Expr} {it : Addr} {u : Value} {o : Obj} {n : String} {vs : Array Value} {Q : Unit → Shared → Prop} (ho : s.heap.get? it = some o) (hc : o.cls = .type n) (hd : o.data = .fields vs)
    (hn : ["enumerate", "zip", "dict_itemiterator", "dict_reverseitemiterator", "odict_iterator", "itertools.zip_longest", "itertools.pairwise"].contains n = false) (hQ : Q () s) : wpAny M A (letOwnedTupleGo tg (.ref it) u) Q E s := by
  unfold letOwnedTupleGo
  cases tg <;> first
    | exact wpAny_pure hQ
    | (cases u <;> first
        | exact wpAny_pure hQ
        | (refine wpAny_bind (wpAny_load ho ?_)
           rw [hc, hd]
           show wpAny M A (if (["enumerate", "zip", "dict_itemiterator", "dict_reverseitemiterator", "odict_iterator", "itertools.zip_longest", "itertools.pairwise"].contains n && vs[0]? == some (rawInt _)) = true then _ else _) Q E s
           rw [if_neg (by intro h; rw [hn, Bool.false_and] at h; cases h)]
           exact wpAny_pure hQ))

/-- the list at a, as it stands at each turn (a loop may append to it) -/
noncomputable def Itl (K : PySem.W.Frag) (a : Addr) : It :=
  ⟨fun i H => ∃ xs x, SqL K H a xs ∧ xs[i]? = some x, fun i H x H' => H' = H ∧ ∀ xs, SqL K H a xs → xs[i]? = some x, fun i H => ∃ xs, SqL K H a xs ∧ xs.length ≤ i⟩
noncomputable def Itt (K : PySem.W.Frag) (a : Addr) : It :=
  ⟨fun i H => ∃ xs x, SqT K H a xs ∧ xs[i]? = some x, fun i H x H' => H' = H ∧ ∀ xs, SqT K H a xs → xs[i]? = some x, fun i H => ∃ xs, SqT K H a xs ∧ xs.length ≤ i⟩
/-- lo, lo + 1, .. (n of them) -/
noncomputable def Itr (lo : Int) (n : Nat) : It := ⟨fun i _ => i < n, fun i H x H' => H' = H ∧ x = .int (lo + i), fun i _ => n ≤ i⟩
theorem turn_list {P : Program} {w : World} {K : PySem.W.Frag} {tg : Expr} (a it : Addr) : Turn P w K tg (Itl K a) [it] it (fun i h => h.IsListIter it a i) where
  mem := by simp
  obj := fun i h st b hb => by
    have e : b = it := by simpa using hb
    subst e
    obtain ⟨o, e, c, d⟩ := st
    exact ⟨o, e, fun v z => by rw [d] at z; cases z⟩
  keep := fun i h h' st k => st.at fun o e => k it (by simp) o e
  item := by
    intro X hP hw hK hc i pins s σ H E I hf st hg
    subst hP hw hK
    obtain ⟨xs, x, hq, hx⟩ := hg
    obtain ⟨its, rv, p, hz⟩ := I.list hq
    obtain ⟨u, hu, ru⟩ := rv.get hx
    obtain ⟨f0, f1, f2, f3, f4, f5⟩ := hf it (by simp)
    refine wpAny_pyNext_list_item st p.isList (x := u) (by simpa using hu) fun h' st' sb => ?_
    have I1 : Inv X pins σ H { s with heap := h' } := I.turned (t' := s.toks) (fun b o hb e => (sb.2 b hb).trans e) f0 f1 f3 f4 f5
    obtain ⟨o, e, c, d⟩ := id st'
    exact ⟨u, rfl, go_of (s := { s with heap := h' }) e c d (by decide) ⟨x, H, I1, ru, ⟨rfl, fun ys hy => by rw [I.list_inj hy hq]; exact hx⟩, st', fun b hb => (hf b hb).1⟩⟩
  done := by
    intro X hP hw hK hc i pins s σ H E I hf st hg
    subst hP hw hK
    obtain ⟨xs, hq, hx⟩ := hg
    obtain ⟨its, rv, p, hz⟩ := I.list hq
    obtain ⟨f0, f1, f2, f3, f4, f5⟩ := hf it (by simp)
    have hl := rv.length
    exact wpAny_pyNext_list_end (I.ok.hd hc) st p.isList (by simp; (clear f3 f2 f1 f0 hz hc; omega)) fun h' eb => ⟨rfl, I.turned (t' := s.toks) (fun b o hb e => eb b o hb e) f0 f1 f3 f4 f5⟩
  self := fun _ _ _ _ _ st h => wpAny_pyIter_listiter st h
theorem turn_range {P : Program} {w : World} {K : PySem.W.Frag} {tg : Expr} (it : Addr) (lo : Int) (n : Nat) : Turn P w K tg (Itr lo n) [it] it (fun i h => IsRangeIter h it (lo + (i : Nat) * 1) ((n : Int) - (i : Nat)) 1) where
  mem := by simp
  obj := fun i h st b hb => by
    have e : b = it := by simpa using hb
    subst e
    exact ⟨_, st, fun v z => by
      have z' : Data.fields _ = Data.cell v := z
      cases z'⟩
  keep := fun i h h' st k => k it (by simp) _ st
  item := by
    intro X hP hw hK hc i pins s σ H E I hf st hg
    subst hP hw hK
    obtain ⟨f0, f1, f2, f3, f4, f5⟩ := hf it (by simp)
    have W := Walks.range (prog := X.prog) (w := X.w) (I.ok.hd hc) it lo 1 n
    refine W.item i s _ _ hg st fun v h' tk hv st' kk => ?_
    obtain ⟨t, rfl⟩ := hv
    have I1 : Inv X pins σ H { s with heap := h', toks := tk } := I.turned (fun b o hb e => kk b o (by simpa using hb) e) f0 f1 f3 f4 f5
    refine ⟨_, rfl, go_of (s := { s with heap := h', toks := tk }) (n := "range_iterator") st' rfl rfl (by decide) ⟨.int (lo + i), H, I1, ⟨t, ?_⟩, ⟨rfl, rfl⟩, st', fun b hb => (hf b hb).1⟩⟩
    rw [Int.mul_one]
  done := by
    intro X hP hw hK hc i pins s σ H E I hf st hg
    subst hP hw hK
    obtain ⟨f0, f1, f2, f3, f4, f5⟩ := hf it (by simp)
    exact wpAny_pyNext_range_end (I.ok.hd hc) st (by have : n ≤ i := hg; (clear f3 f2 f1 f0 st hc; omega)) fun h' eb => ⟨rfl, I.turned (t' := s.toks) (fun b o hb e => eb b o hb e) f0 f1 f3 f4 f5⟩
  self := fun _ _ _ _ _ st h => wpAny_pyIter_rangeiter st h
end L2

namespace L2
open PySem PySem.Spec PyProof.Rows
section
variable {X : Cx} {tg : Expr}
noncomputable def iList (K : PySem.W.Frag) (tl : TE) : TI := fun σ H R => tl σ H fun x H1 => ∃ a, x = .ref a ∧ (∃ xs, SqL K H1 a xs) ∧ R (Itl K a) H1
noncomputable def iTup (K : PySem.W.Frag) (tl : TE) : TI := fun σ H R => tl σ H fun x H1 => ∃ a, x = .ref a ∧ (∃ xs, SqT K H1 a xs) ∧ R (Itt K a) H1
theorem pi_list {l : Expr} {tl : TE} (hl : PE X l tl) : PI X tg l (iList X.K tl) := by
  intro pins s σ H R I h
  refine thn (hl pins s σ H _ I h) fun v s1 ⟨x, H1, I1, r1, q1⟩ => ?_
  obtain ⟨a, e, ⟨xs, hq⟩, q⟩ := q1
  subst e
  cases r1
  obtain ⟨its, rv, p, hz⟩ := I1.list hq
  refine wpAny_pyIter_list p.isList ?_
  refine ⟨s1.heap.objs.size, [s1.heap.objs.size], _, _, H1, rfl, I1.kept (t' := s1.toks) fun b o e => Heap.get?_push_of_some _ e, turn_list a _, ⟨_, Heap.get?_push_size _ rfl, rfl, rfl⟩, fun b hb => ?_, q⟩
  have e : b = s1.heap.objs.size := by simpa using hb
  subst e
  exact I1.fpOk (Nat.le_refl _) (I1.hok.fresh (Nat.le_refl _))
/-- a range object just made, walked -/
theorem range_it {pins : List (Addr × Obj)} {σ : St} {H : Hp} {s : Shared} {R : It → Hp → Prop} {E : Value → Shared → Prop} {lo hi : Int} {t u v : Tok} {tk : Nat} (I : Inv X pins σ H s) (h1 : -(2 ^ 62) ≤ lo) (h2 : lo < 2 ^ 62) (h3 : -(2 ^ 62) ≤ hi) (h4 : hi < 2 ^ 62)
    (q : R (Itr lo (hi - lo).toNat) H) : wpAny (model X.prog X.w) X.A (pyIter (.ref s.heap.objs.size)) (PIE X pins σ tg R) E { s with heap := s.heap.push { cls := .type "range", data := .fields #[.int lo t, .int hi u, .int 1 v] }, toks := tk } := by
  refine wpAny_pyIter_range (IsRange.new ..) (small_one h1 h2 h3 h4) ?_
  have I1 : Inv X pins σ H { s with heap := s.heap.push { cls := .type "range", data := .fields #[.int lo t, .int hi u, .int 1 v] }, toks := tk } := I.kept fun b o e => Heap.get?_push_of_some _ e
  refine ⟨(s.heap.push { cls := .type "range", data := .fields #[.int lo t, .int hi u, .int 1 v] }).objs.size, [(s.heap.push { cls := .type "range", data := .fields #[.int lo t, .int hi u, .int 1 v] }).objs.size], _, _, H, rfl,
    I1.kept (t' := tk) fun b o e => Heap.get?_push_of_some _ e, turn_range _ lo (hi - lo).toNat, ?_, fun b hb => ?_, q⟩
  · have e1 : lo + ((0 : Nat) : Int) * 1 = lo := by simp
    have e2 : (((hi - lo).toNat : Nat) : Int) - ((0 : Nat) : Int) = Builtin.Range.rangeSize lo hi 1 := by rw [rangeSize_one]; split <;> (clear e1 h4 h3 h2 h1; omega)
    show IsRangeIter _ _ (lo + ((0 : Nat) : Int) * 1) ((((hi - lo).toNat : Nat) : Int) - ((0 : Nat) : Int)) 1
    rw [e1, e2]
    exact Heap.get?_push_size _ rfl
  · have e : b = (s.heap.push { cls := .type "range", data := .fields #[.int lo t, .int hi u, .int 1 v] }).objs.size := by simpa using hb
    subst e
    exact I1.fpOk (Nat.le_refl _) (I1.hok.fresh (Nat.le_refl _))
noncomputable def iRng1 (ta : TA) : TI := fun σ H R => ta σ H fun vs H1 => ∃ j : Int, vs = [.int j] ∧ -(2 ^ 62) ≤ j ∧ j < 2 ^ 62 ∧ R (Itr 0 j.toNat) H1
noncomputable def iRng2 (ta : TA) : TI := fun σ H R => ta σ H fun vs H1 => ∃ i j : Int, vs = [.int i, .int j] ∧ (-(2 ^ 62) ≤ i ∧ i < 2 ^ 62 ∧ -(2 ^ 62) ≤ j ∧ j < 2 ^ 62) ∧ R (Itr i (j - i).toNat) H1
theorem pi_range1 {a : Expr} {ta : TA} {p pos : Pos} (hg : Gl X "range") (hm : X.mg "range" = none) (ha : PA X [a] ta) (hs : starEach [a] X.env = [(false, eval a X.env)] := by rfl) : PI X tg (.Call (.Name "range" p) [a] [] pos) (iRng1 ta) := by
  intro pins s σ H R I h
  refine Call_ (ld_blt I hg hm boot_range (PyProof.Rows.callWith_type1 (thn (ha pos pins s σ H _ I h) fun us s1 ⟨vs, H1, I1, r1, q1⟩ => ?_) hs rfl))
  obtain ⟨j, e, q1, q2, q⟩ := q1
  subst e
  cases r1 with
  | cons r rr =>
    cases rr
    obtain ⟨t, rfl⟩ := r
    exact call_range_1 (range_it I1 (by (clear q2 q1 hs hm; omega)) (by (clear q2 q1 hs hm; omega)) q1 q2 (by simpa using q))
/-! ### for -/
/-- W: the invariant by the turn and a measure; N: what the body is to reach -/
noncomputable def tFor (wi : TI) (g : TG) (tb : TS) : TS := fun D σ H => wi σ H fun J H1 => ∃ W : Nat → Nat → St → Hp → Prop, (∃ m, W 0 m σ H1) ∧ ∀ i m σ H, W i m σ H →
  (J.stop i H ∧ D.nx σ H) ∨ (J.go i H ∧ ∃ N : St → Hp → Prop, (∀ σ' H', N σ' H' → ∃ m', m' < m ∧ W (i + 1) m' σ' H') ∧ ∀ x H', J.yld i H x H' → g x σ H' fun σ2 H2 => tb { D with nx := N, ct := N, bk := D.nx } σ2 H2)
/-- the records at fp as they stand -/
noncomputable def pinsAt (fp : List Addr) (h : Heap) : List (Addr × Obj) := fp.filterMap fun b => (h.get? b).map fun o => (b, o)
theorem mem_pinsAt {fp : List Addr} {h : Heap} {b : Addr} {o : Obj} (hb : b ∈ fp) (e : h.get? b = some o) : (b, o) ∈ pinsAt fp h := List.mem_filterMap.mpr ⟨b, hb, by rw [e]; rfl⟩
theorem of_pinsAt {fp : List Addr} {h : Heap} {p : Addr × Obj} (hp : p ∈ pinsAt fp h) : p.1 ∈ fp ∧ h.get? p.1 = some p.2 := by
  obtain ⟨b, hb, e⟩ := List.mem_filterMap.mp hp
  cases q : h.get? b with
  | none => rw [q] at e; cases e
  | some o =>
    rw [q] at e
    have e' : (b, o) = p := Option.some.inj e
    subst e'
    exact ⟨hb, q⟩
theorem Inv.pinned {pins : List (Addr × Obj)} {σ : St} {H : Hp} {s : Shared} {fp : List Addr} (I : Inv X pins σ H s) (hf : ∀ b ∈ fp, FpOk X pins H b) (ho : ∀ b ∈ fp, ∃ o, s.heap.get? b = some o ∧ ∀ v, o.data ≠ .cell v) : Inv X (pins ++ pinsAt fp s.heap) σ H s :=
  I.pins_of fun p hp => (List.mem_append.mp hp).elim (fun z => I.pin p (List.mem_append_right _ z)) fun z => by
    obtain ⟨hb, e⟩ := of_pinsAt z
    obtain ⟨f0, f1, f2, _⟩ := hf p.1 hb
    obtain ⟨o, e', d⟩ := ho p.1 hb
    rw [e] at e'; cases e'
    exact ⟨e, f0, f1, f2, d⟩
theorem Inv.unpinned {pins pl : List (Addr × Obj)} {σ : St} {H : Hp} {s : Shared} (I : Inv X (pins ++ pl) σ H s) : Inv X pins σ H s := I.pins_of fun p hp => I.pin p (List.mem_append_right _ (List.mem_append_left _ hp))
theorem ps_for {iter : Expr} {body : List Stmt} {wi : TI} {g : TG} {tb : TS} {pos : Pos} (hp : PassesOwn (model X.prog X.w) X.A X.env X.xe) (hc : X.calm = true) (hi : PI X tg iter wi) (hg : PG X tg g) (hb : PSs X body tb)
    (hs : ∀ x, foldedSetIterable iter X.env x = pure x := by intro _; rfl) : PS X (.For tg iter body [] pos) (tFor wi g tb) := by
  intro pins s σ H D I h
  refine wpAny_For (thn (hi pins s σ H _ I h) fun v s1 h1 => thn h1 fun itv s2 h2 => ?_) hs
  obtain ⟨it, fp, tn, J, H2, e, I2, T, st2, f2, W, ⟨m0, w0⟩, turn⟩ := h2
  subst e
  -- what stays true of the iterator's objects through the loop
  have stat : ∀ {H' : Hp}, (∀ b ∈ fp, H' b = none) → ∀ b ∈ fp, FpOk X pins H' b := fun hn b hb => ⟨hn b hb, (f2 b hb).2⟩
  refine codeAny_forLoop_any (fun n s' => ∃ i σ' H', Inv X pins σ' H' s' ∧ tn i s'.heap ∧ (∀ b ∈ fp, H' b = none) ∧ W i n σ' H') ?_ m0 ⟨0, σ, H2, I2, st2, fun b hb => (f2 b hb).1, w0⟩
  rintro n s3 ⟨i, σ3, H3, I3, st3, fr3, w3⟩
  rcases turn i n σ3 H3 w3 with ⟨stop, qn⟩ | ⟨go, N, hN, step⟩
  · refine wpAny_passesOwn hp (thn (T.done X rfl rfl rfl hc i pins s3 σ3 H3 X.xe I3 (stat fr3) st3 stop) fun r s4 ⟨hr, I4⟩ => ?_)
    subst hr
    exact wpAny_execs_nil ⟨σ3, H3, I4, qn⟩
  · refine wpAny_passesOwn hp (thn (T.item X rfl rfl rfl hc i pins s3 σ3 H3 X.xe I3 (stat fr3) st3 go) fun r s4 ⟨u, hr, h4⟩ => ?_)
    subst hr
    refine wpAny_passesOwn hp (thn h4 fun _ s5 ⟨x, H5, I5, r5, y5, st5, fr5⟩ => ?_)
    have I5' := I5.pinned (stat fr5) (T.obj _ _ st5)
    refine wpAny_passesOwn hp (thn (hg _ s5 σ3 H5 x u _ I5' r5 (step x H5 y5)) fun _ s6 ⟨σ6, H6, I6, q6⟩ => ?_)
    refine wpAny_passesOwn hp (thn (hb _ s6 σ6 H6 _ I6 q6) fun f s7 q7 => ?_)
    have again : ∀ {σ7 : St} {H7 : Hp}, Inv X (pins ++ pinsAt fp s5.heap) σ7 H7 s7 → N σ7 H7 → ∃ m, m < n ∧ ∃ i σ' H', Inv X pins σ' H' s7 ∧ tn i s7.heap ∧ (∀ b ∈ fp, H' b = none) ∧ W i m σ' H' := fun {σ7 H7} I7 n7 => by
      obtain ⟨m', hm, w7⟩ := hN σ7 H7 n7
      refine ⟨m', hm, i + 1, σ7, H7, I7.unpinned, T.keep _ _ _ st5 fun b hb o e => (I7.pin (b, o) (List.mem_append_right _ (List.mem_append_right _ (mem_pinsAt hb e)))).1, fun b hb => ?_, w7⟩
      obtain ⟨o, e, d⟩ := T.obj _ _ st5 b hb
      exact (I7.pin (b, o) (List.mem_append_right _ (List.mem_append_right _ (mem_pinsAt hb e)))).2.1
    cases f with
    | next => obtain ⟨σ7, H7, I7, n7⟩ := q7; exact again I7 n7
    | cont => obtain ⟨σ7, H7, I7, n7⟩ := q7; exact again I7 n7
    | brk => obtain ⟨σ7, H7, I7, q7⟩ := q7; exact ⟨σ7, H7, I7.unpinned, q7⟩
    | ret v => obtain ⟨x7, σ7, H7, I7, r7, q7⟩ := q7; exact ⟨x7, σ7, H7, I7.unpinned, r7, q7⟩
end

/-! ### the forms one uses -/
/-- over a list that the body leaves as it is -/
theorem for_list {K : PySem.W.Frag} {a : Addr} {xs : List V} {g : TG} {tb : TS} {D : Ends} {σ : St} {H : Hp} (Pv : Nat → St → Hp → Prop) (h0 : Pv 0 σ H) (hl : ∀ i σ H, i ≤ xs.length → Pv i σ H → SqL K H a xs)
    (hs : ∀ i x σ H, xs[i]? = some x → Pv i σ H → g x σ H fun σ2 H2 => tb { D with nx := Pv (i + 1), ct := Pv (i + 1), bk := D.nx } σ2 H2) (hd : ∀ σ H, Pv xs.length σ H → D.nx σ H) :
    ∃ W : Nat → Nat → St → Hp → Prop, (∃ m, W 0 m σ H) ∧ ∀ i m σ H, W i m σ H →
      ((Itl K a).stop i H ∧ D.nx σ H) ∨ ((Itl K a).go i H ∧ ∃ N : St → Hp → Prop, (∀ σ' H', N σ' H' → ∃ m', m' < m ∧ W (i + 1) m' σ' H') ∧ ∀ x H', (Itl K a).yld i H x H' → g x σ H' fun σ2 H2 => tb { D with nx := N, ct := N, bk := D.nx } σ2 H2) := by
  refine ⟨fun i m σ H => m = xs.length - i ∧ i ≤ xs.length ∧ Pv i σ H, ⟨xs.length, by simp, Nat.zero_le _, h0⟩, ?_⟩
  rintro i m σ H ⟨rfl, hi, p⟩
  have q := hl i σ H hi p
  by_cases hlt : i < xs.length
  · refine .inr ⟨⟨xs, xs[i], q, by simp [hlt]⟩, Pv (i + 1), fun σ' H' p' => ⟨xs.length - (i + 1), by (clear hi; omega), rfl, hlt, p'⟩, fun x H' y => ?_⟩
    obtain ⟨e, y⟩ := y
    subst e
    exact hs i x σ _ (y xs q) p
  · have e : i = xs.length := by omega
    subst e
    exact .inl ⟨⟨xs, q, Nat.le_refl _⟩, hd σ H p⟩
theorem for_range {lo : Int} {n : Nat} {g : TG} {tb : TS} {D : Ends} {σ : St} {H : Hp} (Pv : Nat → St → Hp → Prop) (h0 : Pv 0 σ H)
    (hs : ∀ i σ H, i < n → Pv i σ H → g (.int (lo + i)) σ H fun σ2 H2 => tb { D with nx := Pv (i + 1), ct := Pv (i + 1), bk := D.nx } σ2 H2) (hd : ∀ σ H, Pv n σ H → D.nx σ H) :
    ∃ W : Nat → Nat → St → Hp → Prop, (∃ m, W 0 m σ H) ∧ ∀ i m σ H, W i m σ H →
      ((Itr lo n).stop i H ∧ D.nx σ H) ∨ ((Itr lo n).go i H ∧ ∃ N : St → Hp → Prop, (∀ σ' H', N σ' H' → ∃ m', m' < m ∧ W (i + 1) m' σ' H') ∧ ∀ x H', (Itr lo n).yld i H x H' → g x σ H' fun σ2 H2 => tb { D with nx := N, ct := N, bk := D.nx } σ2 H2) := by
  refine ⟨fun i m σ H => m = n - i ∧ i ≤ n ∧ Pv i σ H, ⟨n, by simp, Nat.zero_le _, h0⟩, ?_⟩
  rintro i m σ H ⟨rfl, hi, p⟩
  by_cases hlt : i < n
  · refine .inr ⟨hlt, Pv (i + 1), fun σ' H' p' => ⟨n - (i + 1), by (clear hi; omega), rfl, hlt, p'⟩, fun x H' y => ?_⟩
    obtain ⟨e, y⟩ := y
    subst e y
    exact hs i σ _ hlt p
  · have e : i = n := by omega
    subst e
    exact .inl ⟨Nat.le_refl _, hd σ H p⟩
end L2

namespace L2
open PySem PySem.Spec PyProof.Rows

noncomputable abbrev R2 := V → V → Hp → VK → Prop
/-- a two-place operation on values: f is binaryOp op, inplaceOp op or compareOp op -/
noncomputable def OpR (X : Cx) (f : Value → Value → Sem Value) (r : R2) : Prop :=
  ∀ (pins : List (Addr × Obj)) (s : Shared) (σ : St) (H : Hp) (x y : V) (v u : Value) (Q : VK), Inv X pins σ H s → RelV x v → RelV y u → r x y H Q →
    wpAny (model X.prog X.w) X.A (f v u) (EP X pins σ Q) X.xe s
/-- a one-place operation -/
noncomputable def UnR (X : Cx) (f : Value → Sem Value) (r : V → Hp → VK → Prop) : Prop :=
  ∀ (pins : List (Addr × Obj)) (s : Shared) (σ : St) (H : Hp) (x : V) (v : Value) (Q : VK), Inv X pins σ H s → RelV x v → r x H Q →
    wpAny (model X.prog X.w) X.A (f v) (EP X pins σ Q) X.xe s
/-- a call of a value that is known (a builtin, a type) with values -/
noncomputable def CallR (X : Cx) (f : Value) (r : List V → Hp → VK → Prop) : Prop :=
  ∀ (pins : List (Addr × Obj)) (s : Shared) (σ : St) (H : Hp) (xs : List V) (us : List Value) (Q : VK), Inv X pins σ H s → Vals xs us → r xs H Q →
    wpAny (model X.prog X.w) X.A (call f us) (EP X pins σ Q) X.xe s
/-- a value's truth -/
noncomputable def TruR (X : Cx) (r : V → Hp → (Bool → Hp → Prop) → Prop) : Prop :=
  ∀ (pins : List (Addr × Obj)) (s : Shared) (σ : St) (H : Hp) (x : V) (v : Value) (Q : Bool → Hp → Prop), Inv X pins σ H s → RelV x v → r x H Q →
    wpAny (model X.prog X.w) X.A (truthy v) (TP X pins σ Q) X.xe s

noncomputable def tOp (r : R2) (ta tb : TE) : TE := fun σ H Q => ta σ H fun x H1 => tb σ H1 fun y H2 => r x y H2 Q
noncomputable def tUn (r : V → Hp → VK → Prop) (ta : TE) : TE := fun σ H Q => ta σ H fun x H1 => r x H1 Q
/-- ints in, under C, and a value out -/
noncomputable def rI (C : Int → Int → Prop) (g : Int → Int → V) : R2 := fun x y H Q => ∃ i j, x = .int i ∧ y = .int j ∧ C i j ∧ Q (g i j) H
noncomputable def rI0 (g : Int → Int → V) : R2 := fun x y H Q => ∃ i j, x = .int i ∧ y = .int j ∧ Q (g i j) H
noncomputable def rU (g : Int → V) : V → Hp → VK → Prop := fun x H Q => ∃ i, x = .int i ∧ Q (g i) H

section
variable {X : Cx} {a b c : Expr} {ta tb tc : TE} {pos : Pos}

theorem binT (ha : PE X a ta) (hb : PE X b tb) {pins : List (Addr × Obj)} {s : Shared} {σ : St} {H : Hp} {R : V → V → Hp → Prop} (I : Inv X pins σ H s)
    (h : ta σ H fun x H1 => tb σ H1 fun y H2 => R x y H2) {Q : Value → Shared → Prop} {f : Value → Value → Sem Value}
    (hf : ∀ v u s2 x y H2, Inv X pins σ H2 s2 → RelV x v → RelV y u → R x y H2 → wpAny (model X.prog X.w) X.A (f v u) Q X.xe s2) :
    wpAny (model X.prog X.w) X.A (eval a X.env) (fun v s₁ => wpAny (model X.prog X.w) X.A (eval b X.env) (fun u s₂ => wpAny (model X.prog X.w) X.A (f v u) Q X.xe s₂) X.xe s₁) X.xe s := by
  refine thn (ha pins s σ H _ I h) fun v s1 ⟨x, H1, I1, r1, q1⟩ => ?_
  refine thn (hb pins s1 σ H1 _ I1 q1) fun u s2 ⟨y, H2, I2, r2, q2⟩ => ?_
  exact hf v u s2 x y H2 I2 r1 r2 q2

theorem pe_op {op : Operator} {r : R2} (ho : OpR X (binaryOp op) r) (ha : PE X a ta) (hb : PE X b tb) : PE X (.BinOp a op b pos) (tOp r ta tb) := by
  intro pins s σ H Q I h
  exact wpAny_BinOp (binT ha hb I h fun v u s2 x y H2 I2 rx ry q => ho pins s2 σ H2 x y v u Q I2 rx ry q)
theorem pe_un {op : UnaryOp} {r : V → Hp → VK → Prop} (ho : UnR X (unaryOp op) r) (ha : PE X a ta) : PE X (.UnaryOp op a pos) (tUn r ta) := by
  intro pins s σ H Q I h
  exact UnaryOp_ (thn (ha pins s σ H _ I h) fun v s1 ⟨x, H1, I1, r1, q1⟩ => ho pins s1 σ H1 x v Q I1 r1 q1)
/-! ### ints -/
theorem opI {f : Value → Value → Sem Value} {C : Int → Int → Prop} {g : Int → Int → Int}
    (rule : ∀ (i j : Int) (t u : Tok) (s : Shared) (Q : Value → Shared → Prop) (E : Value → Shared → Prop), C i j → Q (.int (g i j) s.toks) { s with toks := s.toks + 1 } → wpAny (model X.prog X.w) X.A (f (.int i t) (.int j u)) Q E s) :
    OpR X f (rI C fun i j => .int (g i j)) := by
  intro pins s σ H x y v u Q I rx ry h
  obtain ⟨i, j, rfl, rfl, hc, q⟩ := h
  obtain ⟨t, rfl⟩ := rx
  obtain ⟨t', rfl⟩ := ry
  exact rule i j t t' s _ _ hc ⟨.int (g i j), H, I.tok _, ⟨_, rfl⟩, q⟩
theorem opI0 {f : Value → Value → Sem Value} {g : Int → Int → Int}
    (rule : ∀ (i j : Int) (t u : Tok) (s : Shared) (Q : Value → Shared → Prop) (E : Value → Shared → Prop), Q (.int (g i j) s.toks) { s with toks := s.toks + 1 } → wpAny (model X.prog X.w) X.A (f (.int i t) (.int j u)) Q E s) :
    OpR X f (rI0 fun i j => .int (g i j)) := by
  intro pins s σ H x y v u Q I rx ry h
  obtain ⟨i, j, rfl, rfl, q⟩ := h
  obtain ⟨t, rfl⟩ := rx
  obtain ⟨t', rfl⟩ := ry
  exact rule i j t t' s _ _ ⟨.int (g i j), H, I.tok _, ⟨_, rfl⟩, q⟩
theorem opB0 {f : Value → Value → Sem Value} {g : Int → Int → Bool}
    (rule : ∀ (i j : Int) (t u : Tok) (s : Shared) (Q : Value → Shared → Prop) (E : Value → Shared → Prop), Q (.bool (g i j)) s → wpAny (model X.prog X.w) X.A (f (.int i t) (.int j u)) Q E s) :
    OpR X f (rI0 fun i j => .bl (g i j)) := by
  intro pins s σ H x y v u Q I rx ry h
  obtain ⟨i, j, rfl, rfl, q⟩ := h
  obtain ⟨t, rfl⟩ := rx
  obtain ⟨t', rfl⟩ := ry
  exact rule i j t t' s _ _ ⟨.bl (g i j), H, I, rfl, q⟩

noncomputable def CDiv (i j : Int) : Prop := 0 < j ∧ j < 1073741824
noncomputable def CDivN (i j : Int) : Prop := j ≠ 0 ∧ j.natAbs < 1073741824
noncomputable def CPow (i j : Int) : Prop := 0 ≤ j ∧ j ≤ 1000000 ∧ i.natAbs < 2 ^ 64
noncomputable def CMul (i j : Int) : Prop := (-(2 ^ 64) < i ∧ i < 2 ^ 64) ∨ (-(2 ^ 64) < j ∧ j < 2 ^ 64)
theorem op_add : OpR X (binaryOp .Add) (rI0 fun i j => .int (i + j)) := opI0 fun _ _ _ _ _ _ _ q => add_int q
theorem op_sub : OpR X (binaryOp .Sub) (rI0 fun i j => .int (i - j)) := opI0 fun _ _ _ _ _ _ _ q => sub_int q
/-- % by a positive divisor of any size -/
theorem op_mod : OpR X (binaryOp .Mod) (rI (fun _ j => 0 < j) fun i j => .int (i % j)) := opI fun i j _ _ _ _ _ hc q => by
  have h1 : (0 : Int) < j := hc
  exact mod_int' (by (clear h1; omega)) (by rw [Int.fmod_eq_emod_of_nonneg i (by (clear h1; omega))]; exact q)
theorem op_modN : OpR X (binaryOp .Mod) (rI (fun _ j => j ≠ 0) fun i j => .int (i.fmod j)) := opI fun _ _ _ _ _ _ _ hc q => mod_int' hc q
theorem unI {f : Value → Sem Value} {g : Int → Int}
    (rule : ∀ (i : Int) (t : Tok) (s : Shared) (Q : Value → Shared → Prop) (E : Value → Shared → Prop), Q (.int (g i) s.toks) { s with toks := s.toks + 1 } → wpAny (model X.prog X.w) X.A (f (.int i t)) Q E s) :
    UnR X f (rU fun i => .int (g i)) := by
  intro pins s σ H x v Q I rx h
  obtain ⟨i, rfl, q⟩ := h
  obtain ⟨t, rfl⟩ := rx
  exact rule i t s _ _ ⟨.int (g i), H, I.tok _, ⟨_, rfl⟩, q⟩
theorem un_neg : UnR X (unaryOp .USub) (rU fun i => .int (-i)) := unI fun _ _ _ _ _ q => neg_int q
/-! ### bools among ints: n += (a < b) -/
end

/-! ### comparisons -/
/-- the scalars that == tells apart as data does -/
noncomputable def scal : V → V → Bool
  | .non, .non => true | .non, .int _ => true | .int _, .non => true | .non, .bl _ => true | .bl _, .non => true | .non, .str _ => true | .str _, .non => true
  | .int _, .int _ => true | .bl _, .bl _ => true | .str _, .str _ => true | .byt _, .byt _ => true
  | .int _, .str _ => true | .str _, .int _ => true | .bl _, .str _ => true | .str _, .bl _ => true
  | _, _ => false
noncomputable def rEq : R2 := fun x y H Q => scal x y = true ∧ Q (.bl (decide (x = y))) H
noncomputable def rNe : R2 := fun x y H Q => scal x y = true ∧ Q (.bl (!decide (x = y))) H

theorem dec_int {i j : Int} : decide (V.int i = V.int j) = (i == j) := by
  rw [Bool.eq_iff_iff]
  simp
theorem dec_bl {i j : Bool} : decide (V.bl i = V.bl j) = (i == j) := by
  rw [Bool.eq_iff_iff]
  simp
theorem dec_str {i j : Str} : decide (V.str i = V.str j) = (i == j) := by
  rw [Bool.eq_iff_iff]
  simp
theorem dec_byt {i j : Array UInt8} : decide (V.byt i = V.byt j) = (i.toList == j.toList) := by
  rw [Bool.eq_iff_iff]
  cases i
  cases j
  simp

section
variable {X : Cx} {a b c : Expr} {ta tb tc : TE} {pos : Pos}
theorem fin_bl {pins : List (Addr × Obj)} {σ : St} {H : Hp} {s : Shared} {Q : VK} {k k' : Bool} (I : Inv X pins σ H s) (q : Q (.bl k) H) (e : k = k') : EP X pins σ Q (.bool k') s := by
  subst e
  exact ⟨.bl k, H, I, rfl, q⟩
theorem op_eq : OpR X (compareOp .Eq) rEq := by
  intro pins s σ H x y v u Q I rx ry h
  obtain ⟨hs, q⟩ := h
  cases x with
  | non =>
    cases rx
    cases y with
    | non => cases ry; exact PySem.EqNone.eq_none_none (fin_bl I q (by simp))
    | bl j => cases ry; exact PySem.EqNone.eq_none_bool (fin_bl I q (by simp))
    | int j => obtain ⟨t', rfl⟩ := ry; exact PySem.EqNone.eq_none_int (fin_bl I q (by simp))
    | str j => obtain ⟨t', rfl⟩ := ry; exact PySem.EqNone.eq_none_str (fin_bl I q (by simp))
    | _ => exact absurd (show false = true from hs) Bool.false_ne_true
  | bl i =>
    cases rx
    cases y with
    | non => cases ry; exact PySem.EqNone.eq_bool_none (fin_bl I q (by simp))
    | bl j => cases ry; exact eq_bool (fin_bl I q dec_bl)
    | str j => obtain ⟨t', rfl⟩ := ry; exact PySem.EqMixed.eq_bool_str (fin_bl I q (by simp))
    | _ => exact absurd (show false = true from hs) Bool.false_ne_true
  | int i =>
    obtain ⟨t, rfl⟩ := rx
    cases y with
    | non => cases ry; exact PySem.EqNone.eq_int_none (fin_bl I q (by simp))
    | int j => obtain ⟨t', rfl⟩ := ry; exact eq_int (fin_bl I q dec_int)
    | str j => obtain ⟨t', rfl⟩ := ry; exact PySem.EqMixed.eq_int_str (fin_bl I q (by simp))
    | _ => exact absurd (show false = true from hs) Bool.false_ne_true
  | str i =>
    obtain ⟨t, rfl⟩ := rx
    cases y with
    | non => cases ry; exact PySem.EqNone.eq_str_none (fin_bl I q (by simp))
    | bl j => cases ry; exact PySem.EqMixed.eq_str_bool (fin_bl I q (by simp))
    | int j => obtain ⟨t', rfl⟩ := ry; exact PySem.EqMixed.eq_str_int (fin_bl I q (by simp))
    | str j => obtain ⟨t', rfl⟩ := ry; exact eq_str (fin_bl I q dec_str)
    | _ => exact absurd (show false = true from hs) Bool.false_ne_true
  | byt i =>
    obtain ⟨t, rfl⟩ := rx
    cases y with
    | byt j => obtain ⟨t', rfl⟩ := ry; exact PySem.W.eq_bytes (fin_bl I q dec_byt)
    | _ => exact absurd (show false = true from hs) Bool.false_ne_true
  | _ => cases y <;> exact absurd (show false = true from hs) Bool.false_ne_true
theorem op_ne : OpR X (compareOp .NotEq) rNe := by
  intro pins s σ H x y v u Q I rx ry h
  obtain ⟨hs, q⟩ := h
  cases x with
  | non =>
    cases rx
    cases y with
    | non => cases ry; exact PySem.EqNone.ne_none_none (fin_bl I q (by simp))
    | bl j => cases ry; exact PySem.EqNone.ne_none_bool (fin_bl I q (by simp))
    | int j => obtain ⟨t', rfl⟩ := ry; exact PySem.EqNone.ne_none_int (fin_bl I q (by simp))
    | str j => obtain ⟨t', rfl⟩ := ry; exact PySem.EqNone.ne_none_str (fin_bl I q (by simp))
    | _ => exact absurd (show false = true from hs) Bool.false_ne_true
  | bl i =>
    cases rx
    cases y with
    | non => cases ry; exact PySem.EqNone.ne_bool_none (fin_bl I q (by simp))
    | bl j => cases ry; exact ne_bool (fin_bl I q (congrArg not dec_bl))
    | str j => obtain ⟨t', rfl⟩ := ry; exact PySem.EqMixed.ne_bool_str (fin_bl I q (by simp))
    | _ => exact absurd (show false = true from hs) Bool.false_ne_true
  | int i =>
    obtain ⟨t, rfl⟩ := rx
    cases y with
    | non => cases ry; exact PySem.EqNone.ne_int_none (fin_bl I q (by simp))
    | int j => obtain ⟨t', rfl⟩ := ry; exact ne_int (fin_bl I q (congrArg not dec_int))
    | str j => obtain ⟨t', rfl⟩ := ry; exact PySem.EqMixed.ne_int_str (fin_bl I q (by simp))
    | _ => exact absurd (show false = true from hs) Bool.false_ne_true
  | str i =>
    obtain ⟨t, rfl⟩ := rx
    cases y with
    | non => cases ry; exact PySem.EqNone.ne_str_none (fin_bl I q (by simp))
    | bl j => cases ry; exact PySem.EqMixed.ne_str_bool (fin_bl I q (by simp))
    | int j => obtain ⟨t', rfl⟩ := ry; exact PySem.EqMixed.ne_str_int (fin_bl I q (by simp))
    | str j => obtain ⟨t', rfl⟩ := ry; exact ne_str (fin_bl I q (congrArg not dec_str))
    | _ => exact absurd (show false = true from hs) Bool.false_ne_true
  | byt i =>
    obtain ⟨t, rfl⟩ := rx
    cases y with
    | byt j => obtain ⟨t', rfl⟩ := ry; exact PySem.W.ne_bytes (fin_bl I q (congrArg not dec_byt))
    | _ => exact absurd (show false = true from hs) Bool.false_ne_true
  | _ => cases y <;> exact absurd (show false = true from hs) Bool.false_ne_true

theorem op_lt : OpR X (compareOp .Lt) (rI0 fun i j => .bl (decide (i < j))) := opB0 fun _ _ _ _ _ _ _ q => lt_int q
theorem op_gt : OpR X (compareOp .Gt) (rI0 fun i j => .bl (decide (j < i))) := opB0 fun _ _ _ _ _ _ _ q => gt_int q
theorem op_ge : OpR X (compareOp .GtE) (rI0 fun i j => .bl (decide (j ≤ i))) := opB0 fun _ _ _ _ _ _ _ q => ge_int q
/-- is, is not of two objects that are tracked lists or instances -/
noncomputable def isObj : HO → Bool
  | .lst _ => true
  | .ins _ _ _ => true
  | _ => false
theorem nomark (b : Expr) {op : CmpOp} (h : op ≠ .In := by decide) (h2 : op ≠ .NotIn := by decide) : behindInMarks op b = false := by
  have e1 : (op == CmpOp.In) = false := by cases op <;> first | rfl | exact absurd rfl h
  have e2 : (op == CmpOp.NotIn) = false := by cases op <;> first | rfl | exact absurd rfl h2
  cases b <;> simp [behindInMarks, e1, e2]
/-- a comparison as a value; hm: nomark b, or (for in, not in) by with_unfolding_all rfl -/
theorem pe_cmpR {op : CmpOp} {r : R2} (ho : OpR X (compareOp op) r) (ha : PE X a ta) (hb : PE X b tb) (hm : behindInMarks op b = false) : PE X (.Compare a [op] [b] pos) (tOp r ta tb) := by
  intro pins s σ H Q I h
  exact wpAny_Compare1 (binT ha hb I h fun v u s2 x y H2 I2 rx ry q => ho pins s2 σ H2 x y v u Q I2 rx ry q) hm
/-- a reading of a value as a test -/
noncomputable def tTest (t : TE) : TT := fun σ H Q => t σ H fun x H' => ∃ k, x = .bl k ∧ Q k H'
theorem pt_cmpR {op : CmpOp} {r : R2} (ho : OpR X (compareOp op) r) (ha : PE X a ta) (hb : PE X b tb) (hm : behindInMarks op b = false) : PT X (.Compare a [op] [b] pos) (tTest (tOp r ta tb)) := by
  intro pins s σ H Q I h
  refine wpAny_isTrue_Compare1 (thn (ha pins s σ H _ I h) fun v s1 ⟨x, H1, I1, r1, q1⟩ => thn (hb pins s1 σ H1 _ I1 q1) fun u s2 ⟨y, H2, I2, r2, q2⟩ =>
    thn (ho pins s2 σ H2 x y v u _ I2 r1 r2 q2) fun c s3 ⟨z, H3, I3, r3, k, e, q3⟩ => ?_) hm
  subst e
  cases r3
  exact wpAny_truthy_bool ⟨H3, I3, q3⟩
/-- a op1 b op2 c -/
noncomputable def tChain (r r' : R2) (ta tb tc : TE) : TE := fun σ H Q => ta σ H fun x H1 => tb σ H1 fun y H2 => r x y H2 fun z H3 => ∃ k, z = .bl k ∧
  (if k = true then tc σ H3 fun w' H4 => r' y w' H4 Q else Q (.bl false) H3)
/-! ### truth -/
/-- a value's truth by the abstract heap -/
noncomputable def TruV (K : PySem.W.Frag) (x : V) (H : Hp) (k : Bool) : Prop :=
  match x with
  | .non => k = false
  | .bl b => k = b
  | .int i => k = (i != 0)
  | .str y => y.length ≤ sizeLine ∧ k = ((y.length : Int) != 0)
  | .byt y => y.size ≤ sizeLine ∧ k = ((y.size : Int) != 0)
  | .ref p => (∃ xs, SqL K H p xs ∧ k = !xs.isEmpty) ∨ (∃ xs, SqT K H p xs ∧ k = !xs.isEmpty) ∨ ∃ kvs, H p = some (.dK kvs) ∧ k = !kvs.isEmpty
  | _ => False
theorem line63 : (sizeLine : Nat) < 2 ^ 63 := by rw [sizeLine_eq]; decide
/-! ### strs and bytes -/
noncomputable def PlainIxT (b : Expr) : Prop := ∀ o i, subscripted b false o i = operate [o, i] (getItem o i)
/-! ### scalar builtins, by CallR -/
theorem vals1 {x : V} {us : List Value} (r : Vals [x] us) : ∃ u, us = [u] ∧ RelV x u := by
  cases r with
  | cons r1 r2 => cases r2; exact ⟨_, rfl, r1⟩
theorem vals2 {x y : V} {us : List Value} (r : Vals [x, y] us) : ∃ u w', us = [u, w'] ∧ RelV x u ∧ RelV y w' := by
  cases r with
  | cons r1 r2 =>
    cases r2 with
    | cons r3 r4 => cases r4; exact ⟨_, _, rfl, r1, r3⟩
theorem call_abs : CallR X (.builtin "abs") (fun xs H Q => ∃ i, xs = [.int i] ∧ Q (.int (if i < 0 then -i else i)) H) := by
  intro pins s σ H xs us Q I r h
  obtain ⟨i, rfl, q⟩ := h
  obtain ⟨u, rfl, t, rfl⟩ := vals1 r
  exact call_abs_int fun u tk => ⟨.int (if i < 0 then -i else i), H, I.tok _, ⟨_, rfl⟩, q⟩
theorem call_min2 (hc : X.calm = true) : CallR X (.builtin "min") (fun xs H Q => ∃ i j, xs = [.int i, .int j] ∧ Q (.int (if j < i then j else i)) H) := by
  intro pins s σ H xs us Q I r h
  obtain ⟨i, j, rfl, q⟩ := h
  obtain ⟨u, w', rfl, ⟨t, rfl⟩, ⟨t', rfl⟩⟩ := vals2 r
  refine min_two_ints (I.ok.hd hc) fun h' tk k => ⟨_, H, I.kept k, ?_, q⟩
  by_cases hj : j < i
  · rw [if_pos hj, if_pos hj]; exact ⟨_, rfl⟩
  · rw [if_neg hj, if_neg hj]; exact ⟨_, rfl⟩
/-- len of a str, a bytes, a list, a tuple -/
noncomputable def LenV (K : PySem.W.Frag) (x : V) (H : Hp) (n : Nat) : Prop :=
  match x with
  | .str y => y.length ≤ sizeLine ∧ n = y.length
  | .byt y => y.size ≤ sizeLine ∧ n = y.size
  | .ref p => (∃ xs, SqL K H p xs ∧ n = xs.length) ∨ ∃ xs, SqT K H p xs ∧ n = xs.length
  | _ => False
end
end L2

namespace L2
open PySem PySem.Spec PyProof.Rows

/-! ### an instance, its attributes a map -/
structure ObjM (h : Heap) (x dx C : Addr) (mA : Str → Option Value) : Prop where
  obj : h.get? x = some (PySem.W.instObj C dx)
  ns : h.Ns1 dx mA
  ne : dx ≠ x

theorem lookIn_ns {h : Heap} {dx : Addr} {mA : Str → Option Value} (n : h.Ns1 dx mA) : ∃ od, h.get? dx = some od ∧ ∀ name, PySem.W.lookIn name od = some (mA name) := by
  obtain ⟨o, es, ep, ho, hd, hk, _, hm⟩ := n
  refine ⟨o, ho, fun name => ?_⟩
  have e := hm name
  unfold nsFind findBy at e
  rw [← Array.find?_toList] at e
  unfold PySem.W.lookIn
  rw [hd]
  dsimp only
  split
  · rename_i y q
    rw [q] at e
    exact congrArg some e
  · rename_i q
    rw [q] at e
    have a : es.toList.any (·.refKey) = false := by
      rw [List.any_eq_false]
      intro y hy
      obtain ⟨z, t, hkey⟩ := hk y (Array.mem_toList_iff.mp hy)
      simp [DictEntry.refKey, hkey]
    have a' : ¬ es.toList.any (·.refKey) = true := by rw [a]; exact Bool.false_ne_true
    rw [if_neg a']
    exact congrArg some e

theorem ObjM.look {h : Heap} {x dx C : Addr} {mA : Str → Option Value} (I : ObjM h x dx C mA) : ∃ od, PySem.W.InstAt h x (PySem.W.instObj C dx) C (some od) ∧ ∀ name, PySem.W.lookIn name od = some (mA name) :=
  let ⟨od, ho, hl⟩ := lookIn_ns I.ns
  ⟨od, ⟨I.obj, rfl, rfl, ho⟩, hl⟩

section
variable {prog : Program} {w : World} {A : Around} {E : Value → Shared → Prop} {s : Shared} {K : PySem.W.Frag} {x dx C f : Addr} {mA : Str → Option Value} {name : Str} {v : Value}

end

/-! ### the attributes as a list of pairs -/
noncomputable def putF (f : Str) (v : V) : List (Str × V) → List (Str × V)
  | [] => [(f, v)]
  | (g, x) :: r => if g = f then (g, v) :: r else (g, x) :: putF f v r
theorem RelO.some_of {v : V} {o : Option Value} (r : RelO (some v) o) : ∃ u, o = some u ∧ RelV v u := by
  cases o with
  | none => exact (show False from r).elim
  | some u => exact ⟨u, rfl, r⟩
section
variable {P : Program} {w : World} {H H' : Hp} {h h' : Heap} {a C dx : Addr} {fs fs' : List (Str × V)}
theorem ins_get (hok : HOk P w H h) (e : H a = some (.ins C dx fs)) : ∃ mA, ObjM h a dx C mA ∧ (∀ f, RelO (fs.lookup f) (mA f)) ∧ PySem.Within mA (fs.map (·.1)) ∧ fs.length ≤ 1000 ∧ H dx = some (.own a) := by
  obtain ⟨d, z, ne, ob, mA, n, r, q⟩ := (show ObjOk P w H h a (.ins C dx fs) from hok a _ e)
  exact ⟨mA, ⟨ob, n, ne⟩, r, q, z, d⟩
end

/-! ### what of the text a class must have -/
structure Cls (K : PySem.W.Frag) (C : Addr) : Prop where
  pg : PySem.W.plainGet K C Str.empty = true
  hd : PySem.W.hasDictIn K C = true
  po : PySem.W.plainOver K C = true
  sa : PySem.W.findIn K (.ref C) "__setattr__" = some (some (.builtin "object.__setattr__"))
theorem Cls.get {K : PySem.W.Frag} {C : Addr} (c : Cls K C) (f : Str) : PySem.W.plainGet K C f = true := c.pg
/-- no class of it has the name -/
noncomputable def NoAttr (K : PySem.W.Frag) (C : Addr) (f : Str) : Prop := PySem.W.findIn K (.ref C) f = some none
/-- a constant of the class -/
structure Con (K : PySem.W.Frag) (C : Addr) (f : Str) (v : V) (u : Value) : Prop where
  at_ : PySem.W.findIn K (.ref C) f = some (some u)
  rel : RelV v u
  get : PySem.W.specialIn K u "__get__" = some none
  cp : PySem.W.copiedNames.contains f = false
/-- a method: a plain def of the class or of one above it -/
structure Meth (K : PySem.W.Frag) (C : Addr) (m : Str) (f : Addr) : Prop where
  at_ : PySem.W.findIn K (.ref C) m = some (some (.ref f))
  fn : PySem.W.isFn K (.ref f) = true
  kp : PySem.W.keepIn K (.ref f) = true

section
variable {X : Cx} {pins : List (Addr × Obj)} {σ : St} {H : Hp} {s : Shared} {a C dx : Addr} {fs : List (Str × V)} {f : Str} {v : V} {A : Around} {E : Value → Shared → Prop}

end

/-! ### readings and rules -/
/-- e.f, an attribute of the instance -/
noncomputable def tFld (K : PySem.W.Frag) (ta : TE) (f : Str) : TE := fun σ H Q => ta σ H fun x H1 => ∃ a C dx fs v, x = .ref a ∧ H1 a = some (.ins C dx fs) ∧ Cls K C ∧ NoAttr K C f ∧ fs.lookup f = some v ∧ Q v H1
/-- e.f, a constant of the class -/
noncomputable def tCon (K : PySem.W.Frag) (ta : TE) (f : Str) : TE := fun σ H Q => ta σ H fun x H1 => ∃ a C dx fs v u, x = .ref a ∧ H1 a = some (.ins C dx fs) ∧ Cls K C ∧ Con K C f v u ∧ fs.lookup f = none ∧ Q v H1
/-- e.f = value -/
noncomputable def sFld (K : PySem.W.Frag) (ta tv : TE) (f : Str) : TS := fun D σ H => tv σ H fun y H1 => ta σ H1 fun x H2 => ∃ a C dx fs, x = .ref a ∧ H2 a = some (.ins C dx fs) ∧ Cls K C ∧ NoAttr K C f ∧ fs.length < 1000 ∧
  D.nx σ (upd H2 a (.ins C dx (putF f y fs)))
/-- an augmented operator on two values -/
noncomputable def InOp (X : Cx) (op : Operator) (rd : V → V → Hp → VK → Prop) : Prop :=
  ∀ (pins : List (Addr × Obj)) (s : Shared) (σ : St) (H : Hp) (x y : V) (u v : Value) (Q : VK), Inv X pins σ H s → RelV x u → RelV y v → rd x y H Q → wpAny (model X.prog X.w) X.A (inplaceOp op u v) (EP X pins σ Q) X.xe s
/-- e.f op= value -/
noncomputable def sFldAug (K : PySem.W.Frag) (ta tv : TE) (rd : V → V → Hp → VK → Prop) (f : Str) : TS := fun D σ H => ta σ H fun x H1 => ∃ a C dx fs v, x = .ref a ∧ H1 a = some (.ins C dx fs) ∧ Cls K C ∧ NoAttr K C f ∧ fs.lookup f = some v ∧
  tv σ H1 fun y H2 => rd v y H2 fun z H3 => ∃ dx' fs', H3 a = some (.ins C dx' fs') ∧ fs'.length < 1000 ∧ D.nx σ (upd H3 a (.ins C dx' (putF f z fs')))

section
variable {X : Cx} {o e value : Expr} {f : Str} {pos pos' tpos : Pos} {ta tv : TE}
noncomputable def rAdd : V → V → Hp → VK → Prop := fun x y H Q => ∃ i j, x = .int i ∧ y = .int j ∧ Q (.int (i + j)) H
noncomputable def rSub : V → V → Hp → VK → Prop := fun x y H Q => ∃ i j, x = .int i ∧ y = .int j ∧ Q (.int (i - j)) H
end

/-! ### isinstance -/
section
variable {X : Cx} {pins : List (Addr × Obj)} {σ : St} {H : Hp} {s : Shared} {A : Around} {E : Value → Shared → Prop} {Q : Value → Shared → Prop} {c : Value} {b : Bool}
/-- the type of a value, as the fragment's deciders take it; for an instance its class -/
inductive TyOf (K : PySem.W.Frag) (H : Hp) : V → Value → Prop where
  | non : TyOf K H .non (.type "NoneType")
  | bl (x : Bool) : TyOf K H (.bl x) (.type "bool")
  | int (i : Int) : TyOf K H (.int i) (.type "int")
  | str (x : Str) : TyOf K H (.str x) (.type "str")
  | flt (x : UInt64) : TyOf K H (.flt x) (.type "float")
  | lst {a : Addr} {xs : List V} (e : H a = some (.lst xs)) : TyOf K H (.ref a) (.type "list")
  | frz {a : Addr} {o : Obj} {xs : List V} (e : H a = some (.frz o (.lst xs))) : TyOf K H (.ref a) (.type "list")
  | tup {a : Addr} {xs : List V} (e : H a = some (.tup xs)) : TyOf K H (.ref a) (.type "tuple")
  | dK {a : Addr} {kvs : List (Key × V)} (e : H a = some (.dK kvs)) : TyOf K H (.ref a) (.type "dict")
  | dT {a : Addr} {kvs : List (List Key × V)} (e : H a = some (.dT kvs)) : TyOf K H (.ref a) (.type "dict")
  | ins {a C dx : Addr} {fs : List (Str × V)} (e : H a = some (.ins C dx fs)) (cl : Cls K C) (ha : PySem.W.findIn K (.ref C) "__class__" = some (some (.builtin "object.__class__")))
      (hn : PySem.W.specialIn K (.builtin "object.__class__") "__get__" = some (some (.builtin "getset_descriptor.__get__"))) (htk : PySem.W.takesIn K (.builtin "object.__class__") = some true)
      (hm : PySem.W.mroIn K C (.type "object") = some true) : TyOf K H (.ref a) (.ref C)
/-- isinstance(x, c) for one class c, a built-in or an own one: kitOne's answer -/
theorem isinst_ok {x : V} {u t : Value} (I : Inv X pins σ H s) (rx : RelV x u) (ty : TyOf X.K H x t) (e : PySem.W.kitOne X.K t c = some b) (h : ∀ tk, Q (.bool b) { s with toks := tk }) :
    wpAny (model X.prog X.w) A (call (.builtin "isinstance") [u, c]) Q E s := by
  cases ty with
  | non => cases (show u = Value.none from rx); exact PySem.W.kia_one PySem.W.kitx_none I.kIn True.intro e (fun z => nomatch z) h
  | bl y => cases (show u = Value.bool y from rx); exact PySem.W.kia_one PySem.W.kitx_bool I.kIn True.intro e (fun z => nomatch z) h
  | int i => obtain ⟨t, q⟩ := (show ∃ t, u = Value.int i t from rx); cases q; exact PySem.W.kia_one PySem.W.kitx_int I.kIn True.intro e (fun z => nomatch z) h
  | str y => obtain ⟨t, q⟩ := (show ∃ t, u = Value.str y t from rx); cases q; exact PySem.W.kia_one PySem.W.kitx_str I.kIn True.intro e (fun z => nomatch z) h
  | flt y => obtain ⟨t, q⟩ := (show ∃ t, u = Value.float y t from rx); cases q; exact PySem.W.kia_one PySem.W.kitx_float I.kIn True.intro e (fun z => nomatch z) h
  | @lst a xs ea =>
    cases (show u = Value.ref a from rx)
    obtain ⟨_, _, n, _, h1⟩ := (show ObjOk X.prog X.w H s.heap a (.lst xs) from I.hok a _ ea)
    exact PySem.W.kia_one PySem.W.kitx_list I.kIn ⟨_, h1, rfl⟩ e (fun z => nomatch z) h
  | @frz a ob xs ea =>
    cases (show u = Value.ref a from rx)
    obtain ⟨_, _, _, n, _, h1⟩ := (show ObjOk X.prog X.w H s.heap a (.frz ob (.lst xs)) from I.hok a _ ea)
    exact PySem.W.kia_one PySem.W.kitx_list I.kIn ⟨_, h1, rfl⟩ e (fun z => nomatch z) h
  | @tup a xs ea =>
    cases (show u = Value.ref a from rx)
    obtain ⟨_, _, _, p⟩ := (show ObjOk X.prog X.w H s.heap a (.tup xs) from I.hok a _ ea)
    obtain ⟨o, h1, h2, _⟩ := p
    exact PySem.W.kia_one PySem.W.kitx_tuple I.kIn ⟨o, h1, h2⟩ e (fun z => nomatch z) h
  | @dK a kvs ea =>
    cases (show u = Value.ref a from rx)
    obtain ⟨_, _, vs, _, p⟩ := (show ObjOk X.prog X.w H s.heap a (.dK kvs) from I.hok a _ ea)
    obtain ⟨o, es, ep, h1, h2, _⟩ := p
    exact PySem.W.kia_one PySem.W.kitx_dict I.kIn ⟨o, h1, h2.1⟩ e (fun z => nomatch z) h
  | @dT a kvs ea =>
    cases (show u = Value.ref a from rx)
    obtain ⟨_, _, xs, _, o, es, ep, h1, h2, _⟩ := (show ObjOk X.prog X.w H s.heap a (.dT kvs) from I.hok a _ ea)
    exact PySem.W.kia_one PySem.W.kitx_dict I.kIn ⟨o, h1, h2.1⟩ e (fun z => nomatch z) h
  | @ins a C dx fs ea cl ha hn htk hm =>
    cases (show u = Value.ref a from rx)
    obtain ⟨mA, O, _⟩ := ins_get I.hok ea
    obtain ⟨od, J, _⟩ := O.look
    exact PySem.W.kia_one (PySem.W.kitx_own (cl.get _) cl.hd ha hn htk hm) I.kIn J e (fun z => nomatch z) h
end
end L2

namespace L2
open PySem PySem.Spec PyProof.Rows

/-! ### room -/
structure Room (k : Nat) (A : Around) : Prop where
  hd : A.handled = none
  dp : A.depth + 3 * k + 5 < recursionLimit
  un : A.units + 16 * k + 200 < cLine
theorem Room.mono {j k : Nat} {A : Around} (r : Room k A) (h : j ≤ k) : Room j A := ⟨r.hd, by have := r.dp; omega, by have := r.un; omega⟩
theorem Room.deeper {k : Nat} {A : Around} (r : Room (k + 1) A) (env : Env) : Room k (A.deeper env) :=
  ⟨r.hd, by have := r.dp; show A.depth + 1 + 3 * k + 5 < _; omega, by have := r.un; show A.units + 3 + 16 * k + 200 < _; omega⟩
theorem Room.depth {k : Nat} {A : Around} (r : Room k A) : A.depth < recursionLimit := by have := r.dp; omega
theorem Room.units {k : Nat} {A : Around} (r : Room k A) : A.units + 64 < cLine := by have := r.un; omega
/-! ### argument lists and displays -/
noncomputable def tNil : TA := fun _ H Q => Q [] H
noncomputable def tCons (ta : TE) (tr : TA) : TA := fun σ H Q => ta σ H fun x H1 => tr σ H1 fun xs H2 => Q (x :: xs) H2
section
variable {X : Cx} {e : Expr} {es : List Expr} {te : TE} {t : TA} {pos : Pos}
theorem pa_nil : PA X [] tNil := fun _ _ _ _ H Q I h => Calls.spliced_nil ⟨[], H, I, .nil, h⟩
theorem pa_cons (ha : PE X e te) (hr : PA X es t) (hs : starEach (e :: es) X.env = (false, eval e X.env) :: starEach es X.env := by rfl) : PA X (e :: es) (tCons te t) := by
  intro pos pins s σ H Q I h
  rw [hs]
  show wpAny _ _ (spliced ((false, eval e X.env) :: backTo pos (starEach es X.env))) _ _ s
  refine Calls.spliced_cons (thn (ha pins s σ H _ I h) fun u s1 ⟨x, H1, I1, r1, q1⟩ => ?_)
  exact thn (hr pos pins s1 σ H1 _ I1 q1) fun us s2 ⟨xs, H2, I2, r2, q2⟩ => ⟨x :: xs, H2, I2, .cons r1 r2, q2⟩

/-- a tuple, a list of written items -/
noncomputable def tTup (t : TA) : TE := fun σ H Q => t σ H fun xs H1 => xs.length ≤ sizeLine ∧ ∀ p, H1 p = none → Q (.ref p) (upd H1 p (.tup xs))
noncomputable def tLst (t : TA) : TE := fun σ H Q => t σ H fun xs H1 => xs.length ≤ sizeLine ∧ ∀ p, H1 p = none → Q (.ref p) (upd H1 p (.lst xs))
theorem pe_tup {x1} (h : PA X es t) : PE X (.Tuple es x1 pos) (tTup t) := by
  intro pins s σ H Q I hq
  refine wpAny_Tuple_spliced (thn (h pos pins s σ H _ I hq) fun us s1 ⟨xs, H1, I1, r, z, q⟩ => ⟨by rw [← r.length]; exact z, ?_⟩)
  have hf : H1 s1.heap.objs.size = none := I1.hok.fresh (Nat.le_refl _)
  refine ⟨.ref s1.heap.objs.size, upd H1 s1.heap.objs.size (.tup xs), I1.laid (t' := s1.toks) (fun b u e => Heap.get?_push_of_some _ e) (Nat.le_refl _) ?_, rfl, q _ hf⟩
  exact ⟨z, us, r, ⟨_, Heap.get?_push_size _ rfl, rfl, _, rfl⟩⟩
theorem pe_lst (h : PA X es t) : PE X (.List es pos) (tLst t) := by
  intro pins s σ H Q I hq
  refine wpAny_List_spliced (thn (h pos pins s σ H _ I hq) fun us s1 ⟨xs, H1, I1, r, z, q⟩ => ⟨by rw [← r.length]; exact z, ?_⟩)
  have hf : H1 s1.heap.objs.size = none := I1.hok.fresh (Nat.le_refl _)
  refine ⟨.ref s1.heap.objs.size, upd H1 s1.heap.objs.size (.lst xs), I1.laid (t' := s1.toks) (fun b u e => Heap.get?_push_of_some _ e) (Nat.le_refl _) ?_, rfl, q _ hf⟩
  exact ⟨z, us, 0, r, Heap.get?_push_size _ rfl⟩
end

/-! ### what a def promises -/
/-- a def's promise: the bound arguments in the parameters' order, the heap, the wanted end, the wanted exception -/
noncomputable abbrev Sp := List V → Hp → VK → XK → Prop
/-- how an exception lies behind a call (file 08 gives it): the callers' frames, abstract heap and state ahead of the call, the wish, the exception, the state -/
noncomputable abbrev CXT := List Env → Hp → Shared → XK → Value → Shared → Prop

/-- the state at a call -/
structure Env0 (P : Program) (w : World) (K : PySem.W.Frag) (mg : Str → Option Value) (base : Heap) (A : Around) (outer : List Env) (s : Shared) (H : Hp) : Prop where
  frames : A.frames = some outer
  mod : Mod K mg base
  bs : ∀ b o, base.get? b = some o → s.heap.get? b = some o ∧ H b = none
  bsz : base.objs.size ≤ s.heap.objs.size
  funs : s.heap.FunFrames base outer
  frf : ∀ b ∈ frs outer, H b = none
  hok : HOk P w H s.heap
  bare : AllBare s.gens
/-- a call's end -/
noncomputable def CE (outer : List Env) (P : Program) (w : World) (H : Hp) (s : Shared) (Q : VK) (u : Value) (s' : Shared) : Prop :=
  ∃ v H', s'.os = s.os ∧ AllBare s'.gens ∧ Un (frs outer) [] H H' s.heap s'.heap ∧ HOk P w H' s'.heap ∧ RelV v u ∧ Q v H'
noncomputable def CR (CX : CXT) (outer : List Env) (P : Program) (w : World) (H : Hp) (s : Shared) (Q : VK) (E : XK) (r : Result) (s' : Shared) : Prop :=
  match r with
  | .ok (.ret u) => CE outer P w H s Q u s'
  | .ok _ => False
  | .error e => CX outer H s E e s'
structure FnOk (P : Program) (w : World) (K : PySem.W.Frag) (mg : Str → Option Value) (base : Heap) (CX : CXT) (k : Nat) (f : Addr) (fd : FuncData) (ps : List Str) (sp : Sp) : Prop where
  len : ∀ vs H Q E, sp vs H Q E → vs.length = ps.length
  run : ∀ (A : Around) (outer : List Env) (s : Shared) (H : Hp) (args : Args) (us : List Value) (vs : List V) (Q : VK) (E : XK), Room k A → Env0 P w K mg base A outer s H → BindsTo s fd args (ps.zip us) → Vals vs us → sp vs H Q E →
    codeAny (model P w) A (.call (.ref f) args) (CR CX outer P w H s Q E) s
theorem FnOk.mono {P : Program} {w : World} {K : PySem.W.Frag} {mg : Str → Option Value} {base : Heap} {CX : CXT} {j k : Nat} {f : Addr} {fd : FuncData} {ps : List Str} {sp : Sp} (F : FnOk P w K mg base CX j f fd ps sp) (h : j ≤ k) :
    FnOk P w K mg base CX k f fd ps sp := ⟨F.len, fun A outer s H args us vs Q E hr => F.run A outer s H args us vs Q E (hr.mono h)⟩
/-- a weaker promise -/
theorem FnOk.imp {P : Program} {w : World} {K : PySem.W.Frag} {mg : Str → Option Value} {base : Heap} {CX : CXT} {k : Nat} {f : Addr} {fd : FuncData} {ps : List Str} {sp sp' : Sp} (F : FnOk P w K mg base CX k f fd ps sp)
    (h : ∀ vs H Q E, sp' vs H Q E → sp vs H Q E) : FnOk P w K mg base CX k f fd ps sp' :=
  ⟨fun vs H Q E q => F.len vs H Q E (h _ _ _ _ q), fun A outer s H args us vs Q E hr he hb hv hs => F.run A outer s H args us vs Q E hr he hb hv (h _ _ _ _ hs)⟩

section
variable {X : Cx} {pins : List (Addr × Obj)} {σ : St} {H : Hp} {s s' : Shared}
/-- from a body: what a callee wants -/
theorem Inv.env0 (I : Inv X pins σ H s) : Env0 X.prog X.w X.K X.mg X.base X.A X.stack s H :=
  ⟨I.ok.frames, I.ok.mod, I.bs, Nat.le_trans I.ok.bsz I.sz, I.stack, I.stkFree, I.hok, I.bare⟩
/-- behind a call -/
theorem Inv.after {Q : VK} {u : Value} (I : Inv X pins σ H s) (h : CE X.stack X.prog X.w H s Q u s') : EP X pins σ Q u s' := by
  obtain ⟨v, H', os, bare, un, hok, r, q⟩ := h
  obtain ⟨hh, g, d, t, os'⟩ := s'
  obtain rfl : os' = s.os := os
  exact ⟨v, H', I.call (h' := hh) (g' := g) (d' := d) (t' := t) (ch := []) un hok bare (fun b z => absurd z (by simp)), r, q⟩
end

/-! ### calls -/
/-- f(..): the written arguments, then the defaults dvs; E: what is wanted of an exception -/
noncomputable def tCall (sp : Sp) (dvs : List V) (E : XK) (t : TA) : TE := fun σ H Q => t σ H fun vs H1 => sp (vs ++ dvs) H1 Q E
/-- o.m(..) of an instance of the class at C -/
noncomputable def tMeth (C : Addr) (m : Str) (sp : Sp) (dvs : List V) (E : XK) (ta : TE) (t : TA) : TE := fun σ H Q => ta σ H fun x H1 => ∃ a dx fs, x = .ref a ∧ H1 a = some (.ins C dx fs) ∧ fs.lookup m = none ∧
  t σ H1 fun vs H2 => sp (x :: (vs ++ dvs)) H2 Q E
/-- C(..): a new instance and its dict, then __init__ -/
noncomputable def tMake (C : Addr) (sp : Sp) (dvs : List V) (E : XK) (t : TA) : TE := fun σ H Q => t σ H fun vs H1 => ∀ x dx, H1 x = none → H1 dx = none → dx ≠ x →
  sp (.ref x :: (vs ++ dvs)) (upd (upd H1 dx (.own x)) x (.ins C dx [])) (fun v H2 => v = .non ∧ Q (.ref x) H2) E

/-- how the parameters are bound: us the positional arguments, kw the keywords' values by name, ds the defaults that fill up -/
noncomputable def Binds (K : PySem.W.Frag) (fd : FuncData) (ps : List Str) (ds : List Value) : Prop :=
  ∀ (s : Shared) (us : List Value), K.In s.heap → (us ++ ds).length = ps.length → BindsTo s fd ⟨us, []⟩ (ps.zip (us ++ ds))
/-- every parameter is given -/
theorem Binds.all {K : PySem.W.Frag} {fd : FuncData} {ps : List Str} (h : ∀ us : List Value, us.length = ps.length → bindArgs fd ⟨us, []⟩ = pure (ps.zip us)) : Binds K fd ps [] := fun s us _ hl => by
  rw [List.append_nil] at hl ⊢
  exact .of_eq (h us hl)

/-- an exception of a callee reaches what this body wants of exceptions -/
noncomputable def Passes (CX : CXT) (X : Cx) (E : XK) : Prop := ∀ (pins : List (Addr × Obj)) (σ : St) (H : Hp) (s : Shared) (e : Value) (s' : Shared), Inv X pins σ H s → CX X.stack H s E e s' → X.xe e s'

section
variable {X : Cx} {CX : CXT} {k : Nat} {f C : Addr} {fd : FuncData} {ps : List Str} {sp : Sp} {dvs : List V} {ds : List Value} {E : XK} {x m : Str} {p pos apos : Pos} {e o : Expr} {es : List Expr} {ta : TE} {t : TA}

/-- the callee runs -/
theorem run_fn {pins : List (Addr × Obj)} {σ : St} {H : Hp} {s : Shared} {Q : VK} {us : List Value} {vs : List V} (F : FnOk X.prog X.w X.K X.mg X.base CX k f fd ps sp) (hr : Room k X.A) (hb : Binds X.K fd ps ds) (hd : Vals dvs ds) (hx : Passes CX X E)
    (I : Inv X pins σ H s) (r : Vals vs us) (h : sp (vs ++ dvs) H Q E) : wpAny (model X.prog X.w) X.A (call (.ref f) us) (EP X pins σ Q) X.xe s := by
  have r2 : Vals (vs ++ dvs) (us ++ ds) := r.append hd
  have hl : (us ++ ds).length = ps.length := by rw [← r2.length]; exact F.len _ _ _ _ h
  refine wpAny_call (codeAny_mono (F.run X.A X.stack s H ⟨us, []⟩ (us ++ ds) (vs ++ dvs) Q E hr I.env0 (hb s us I.kIn hl) r2 h) fun r s' hq => ?_)
  cases r with
  | error e => exact hx pins σ H s e s' I hq
  | ok fl =>
    cases fl with
    | ret u => exact I.after hq
    | next => exact False.elim hq
    | brk => exact False.elim hq
    | cont => exact False.elim hq

theorem pe_call (F : FnOk X.prog X.w X.K X.mg X.base CX k f fd ps sp) (hr : Room k X.A) (hg : Gl X x) (hm : X.mg x = some (.ref f)) (hk : PySem.W.keepIn X.K (.ref f) = true) (hb : Binds X.K fd ps ds) (hd : Vals dvs ds) (hx : Passes CX X E)
    (ha : PA X (e :: es) t) (hdb : (x == ("__debug__" : Str)) = false := by decide) (he : starEach (e :: es) X.env = (false, eval e X.env) :: starEach es X.env := by rfl) (hpl : (backTo pos (starEach es X.env)).any (·.1) = false := by rfl) :
    PE X (.Call (.Name x p) (e :: es) [] pos) (tCall sp dvs E t) := by
  intro pins s σ H Q I h
  refine wpAny_Call_Name_kw (ld_glob I hg hm ?_ hdb)
  refine PySem.W.callWith_K (h₀ := X.base) I.ok.mod.kin hk (thn (ha pos pins s σ H _ I h) fun us s1 ⟨vs, H1, I1, r, q⟩ => ⟨I1.kIn, ?_⟩) he hpl
  exact run_fn F hr hb hd hx I1 r q
/-- what a class must have to be made -/
structure Mk (K : PySem.W.Frag) (C f : Addr) : Prop where
  makes : PySem.W.makesIn K C = true
  init : PySem.W.findIn K (.ref C) "__init__" = some (some (.ref f))
  fn : PySem.W.isFn K (.ref f) = true
  kp : PySem.W.keepIn K (.ref C) = true

end

/-! ### keywords -/
/-- the values of the keywords, from the left -/
noncomputable def PK (X : Cx) (kws : List Keyword) (t : TA) : Prop :=
  ∀ (pos : Pos) (pins : List (Addr × Obj)) (s : Shared) (σ : St) (H : Hp) (Q : List V → Hp → Prop), Inv X pins σ H s → t σ H Q → wpAny (model X.prog X.w) X.A (evalAll ((backToKw pos (keywordEach kws X.env)).map (·.2))) (AP X pins σ Q) X.xe s
section
variable {X : Cx} {CX : CXT} {k : Nat} {f C : Addr} {fd : FuncData} {ps ks : List Str} {sp : Sp} {E : XK} {x m : Str} {p pos apos kpos : Pos} {e o : Expr} {es : List Expr} {kws : List Keyword} {te ta : TE} {t tk : TA} {nm : Option Str}
/-- how a call with keywords binds: g puts the positional values us and the keywords' values ws (names ks) in the parameters' order, defaults among them -/
structure KBinds (K : PySem.W.Frag) (fd : FuncData) (ps ks : List Str) (g : List Value → List Value → List Value) (gV : List V → List V → List V) : Prop where
  to : ∀ (s : Shared) (us ws : List Value), K.In s.heap → (g us ws).length = ps.length → BindsTo s fd ⟨us, ks.zip ws⟩ (ps.zip (g us ws))
  rel : ∀ {vs : List V} {us : List Value} {zs : List V} {ws : List Value}, Vals vs us → Vals zs ws → Vals (gV vs zs) (g us ws)
noncomputable def tCallK (sp : Sp) (gV : List V → List V → List V) (E : XK) (t tk : TA) : TE := fun σ H Q => t σ H fun vs H1 => tk σ H1 fun zs H2 => sp (gV vs zs) H2 Q E
variable {g : List Value → List Value → List Value} {gV : List V → List V → List V}
end

/-! ### a def's body keeps its promise -/
/-- names: the parameters first -/
structure FnScope (N P : List Str) (sc : Scope) : Prop where
  kind : sc.kind = .function
  co : sc.isCoroutine = false
  gen : sc.isGenerator = false
  nd : N.Nodup
  pre : N.take P.length = P
  par : ∀ x ∈ P, sc.names.lookup x = some .local ∨ sc.names.lookup x = some .cell
  nofree : ∀ y ∈ sc.names, y.2 ≠ .free

theorem bindL_out {kindOf : Str → Option NameKind} {x : Str} : ∀ {binds : List (Str × Value)} {m : Str → Option Value}, (∀ v, (x, v) ∉ binds) → bindL kindOf binds m x = m x
  | [], _, _ => rfl
  | (n, v) :: r, m, h => by
    unfold bindL
    rw [bindL_out fun w hw => h w (List.mem_cons_of_mem _ hw)]
    split
    · have : x ≠ n := by rintro rfl; exact h v List.mem_cons_self
      simp [this]
    · rfl
theorem bindC_out {kindOf : Str → Option NameKind} {x : Str} : ∀ {binds : List (Str × Value)} {m : Str → Option Value}, (∀ v, (x, v) ∉ binds) → bindC kindOf binds m x = m x
  | [], _, _ => rfl
  | (n, v) :: r, m, h => by
    unfold bindC
    rw [bindC_out fun w hw => h w (List.mem_cons_of_mem _ hw)]
    split
    · rfl
    · have : x ≠ n := by rintro rfl; exact h v List.mem_cons_self
      simp [this]
theorem bindL_get {kindOf : Str → Option NameKind} {x : Str} {v : Value} : ∀ {P : List Str} {vs : List Value} {i : Nat} {m : Str → Option Value}, P.Nodup → P[i]? = some x → vs[i]? = some v → kindOf x = some .local →
    bindL kindOf (P.zip vs) m x = some v
  | [], _, _, _, _, h, _, _ => by simp at h
  | _ :: _, [], _, _, _, _, h, _ => by simp at h
  | p :: P, w :: vs, 0, m, nd, h1, h2, hk => by
    simp at h1 h2; subst h1; subst h2
    show bindL kindOf ((p, w) :: P.zip vs) m p = _
    unfold bindL
    rw [bindL_out fun v hv => (List.nodup_cons.mp nd).1 (List.of_mem_zip hv).1, if_pos hk]
    simp
  | p :: P, w :: vs, i + 1, m, nd, h1, h2, hk => by
    show bindL kindOf ((p, w) :: P.zip vs) m x = _
    unfold bindL
    exact bindL_get (i := i) (List.nodup_cons.mp nd).2 (by simpa using h1) (by simpa using h2) hk
theorem bindC_get {kindOf : Str → Option NameKind} {x : Str} {v : Value} : ∀ {P : List Str} {vs : List Value} {i : Nat} {m : Str → Option Value}, P.Nodup → P[i]? = some x → vs[i]? = some v → kindOf x ≠ some .local →
    bindC kindOf (P.zip vs) m x = some v
  | [], _, _, _, _, h, _, _ => by simp at h
  | _ :: _, [], _, _, _, _, h, _ => by simp at h
  | p :: P, w :: vs, 0, m, nd, h1, h2, hk => by
    simp at h1 h2; subst h1; subst h2
    show bindC kindOf ((p, w) :: P.zip vs) m p = _
    unfold bindC
    rw [bindC_out fun v hv => (List.nodup_cons.mp nd).1 (List.of_mem_zip hv).1, if_neg hk]
    simp
  | p :: P, w :: vs, i + 1, m, nd, h1, h2, hk => by
    show bindC kindOf ((p, w) :: P.zip vs) m x = _
    unfold bindC
    exact bindC_get (i := i) (List.nodup_cons.mp nd).2 (by simpa using h1) (by simpa using h2) hk

/-- the names' values at the entry -/
noncomputable def start (N : List Str) (vs : List V) : St := vs.map some ++ List.replicate (N.length - vs.length) none

/-- the context of a def's body, at its entry; an exception leaves the frame, then lies as CX says -/
noncomputable def cxOf (CX : CXT) (P : Program) (w : World) (K : PySem.W.Frag) (mg : Str → Option Value) (base : Heap) (N : List Str) (qual : Str) (scope : Scope) (f : Addr) (cd : Value) (A : Around) (outer : List Env) (s : Shared) (H : Hp) (E : XK) : Cx where
  prog := P
  w := w
  K := K
  mg := mg
  base := base
  A := A.deeper (envOfC qual scope s.heap.objs.size f cd)
  N := N
  s₀ := s
  H₀ := H
  env := envOfC qual scope s.heap.objs.size f cd
  outer := outer
  stack := envOfC qual scope s.heap.objs.size f cd :: outer
  ex := []
  calm := true
  fn := fun _ => true
  pn := []
  xe := fun e s' => wpAny (model P w) (A.deeper (envOfC qual scope s.heap.objs.size f cd)) (leaving (envOfC qual scope s.heap.objs.size f cd) e) (fun _ s'' => CX outer H s E e s'') (fun e' s'' => CX outer H s E e' s'') s'

theorem cell_has {sc : Scope} {n : Nat} {x : Str} (h : sc.names.lookup x = some .cell) : ∃ c, (cellsFrom n sc.names []).lookup x = some c := by
  have q := PySem.W.cellsFrom_some sc.names n [] (.inl h)
  exact Option.isSome_iff_exists.mp q

theorem inv_start {CX : CXT} {P : Program} {w : World} {K : PySem.W.Frag} {mg : Str → Option Value} {base : Heap} {N ps : List Str} {qual : Str} {scope : Scope} {f : Addr} {cd : Value} {A : Around} {outer : List Env} {s s1 : Shared} {H : Hp} {E : XK} {us : List Value} {vs : List V}
    (S : FnScope N ps scope) (hd : A.handled = none) (e0 : Env0 P w K mg base A outer s H) (hl : vs.length = ps.length) (r : Vals vs us)
    (x : InCallC s s.heap.objs.size (bindL (envOfC qual scope s.heap.objs.size f cd).kindOf (ps.zip us) fun _ => none) (cellsFrom (s.heap.objs.size + 1) scope.names []) (bindC (envOfC qual scope s.heap.objs.size f cd).kindOf (ps.zip us) fun _ => none) s1) :
    Inv (cxOf CX P w K mg base N qual scope f cd A outer s H E) [] (start N vs) H s1 := by
  have hpl : ps.length ≤ N.length := by have := congrArg List.length S.pre; rw [List.length_take] at this; (clear hl hd; omega)
  obtain ⟨h1, tk, rfl, hk⟩ := x.done
  have noA : ∀ b : Addr, b ∉ (cxOf CX P w K mg base N qual scope f cd A outer s H E).ex := fun b z => absurd (show b ∈ ([] : List Addr) from z) (by simp)
  refine ⟨⟨e0.mod, S.kind, rfl, rfl, Nat.le_refl _, fun y z c h1 h2 => ?_, fun y hy => ?_, fun y c _ h => ?_, fun _ => hd, Around.frames_deeper e0.frames, .inr ⟨rfl, rfl⟩, fun b z => absurd z (noA b), e0.bs, e0.bsz, fun b _ _ => noA b, fun b z => absurd z (noA b), e0.funs, e0.frf⟩,
    rfl, e0.bare, Un.kept hk, ⟨_, x.toInCall.ns, fun i y v h1 h2 h3 => ?_⟩, fun y c h => ⟨_, x.cell y c h⟩, e0.hok.fresh (Nat.le_refl _), fun y c h => ?_, fun p hp => absurd (show p ∈ ([] : List (Addr × Obj)) from hp) (by simp), e0.hok.kept hk, ?_⟩
  · exact name_of_addr x.apart (PySem.mem_of_lookup h1) (PySem.mem_of_lookup h2)
  · have hy : scope.names.lookup y = some .cell ∨ scope.names.lookup y = some .free := hy
    rcases hy with hy | hy
    · exact cell_has hy
    · exact absurd rfl (S.nofree _ (PySem.mem_of_lookup hy))
  · exact Nat.le_of_lt (x.above y c (PySem.mem_of_lookup h))
  · have hi : i < vs.length := by
      unfold start at h2
      by_cases hi : i < vs.length
      · exact hi
      · rw [List.getElem?_append_right (by simpa using hi)] at h2
        rw [List.getElem?_replicate] at h2
        split at h2 <;> cases h2
    have ha : vs[i]? = some v := by
      unfold start at h2
      rw [List.getElem?_append_left (by simpa using hi), List.getElem?_map] at h2
      cases e : vs[i]? with
      | none => rw [e] at h2; cases h2
      | some a => rw [e] at h2; cases h2; rfl
    obtain ⟨u, hu, rv⟩ := r.get ha
    have hp : ps[i]? = some y := by
      rw [← S.pre, List.getElem?_take_of_lt (by (clear hu ha h2 h1 hpl hd; omega))]; exact h1
    have ndP : ps.Nodup := by rw [← S.pre]; exact S.nd.sublist (List.take_sublist _ _)
    refine ⟨u, rv, ?_⟩
    rcases S.par y (List.mem_of_getElem? hp) with k | k
    · exact .inl ⟨k, bindL_get ndP hp hu k⟩
    · obtain ⟨c, e⟩ := cell_has (n := s.heap.objs.size + 1) k
      refine .inr ⟨.inl k, c, e, ?_⟩
      have q := x.cell y c e
      rw [bindC_get ndP hp hu (by show scope.names.lookup y ≠ _; rw [k]; decide)] at q
      exact q
  · exact e0.hok.fresh (Nat.le_of_lt (x.above y c (PySem.mem_of_lookup h)))
  · unfold start
    show _ = N.length
    rw [List.length_append, List.length_map, List.length_replicate]
    (clear hd; omega)

/-- THE RULE: a def (or a method) of the text, by its body. The body's reading t is chosen for each entry; it is run at the parameters' values -/
theorem fn_of {CX : CXT} {P : Program} {w : World} {K : PySem.W.Frag} {mg : Str → Option Value} {base : Heap} {k : Nat} {f : Addr} {name qual : Str} {params : Arguments} {body : List Stmt} {scope : Scope} {dV kV doc pm cdv ct oc : Value} {an od : Option Addr}
    {osl : Array (Option Value)} {N ps : List Str} {sp : Sp} (lk : K.lookup f = some ⟨oc, od, .func (PySem.W.fnOf name qual params body scope dV kV doc pm an cdv ct), osl⟩) (hcd : PySem.W.codeIn K cdv qual = true) (S : FnScope N ps scope)
    (len : ∀ vs H Q E, sp vs H Q E → vs.length = ps.length)
    (hbody : ∀ (A : Around) (outer : List Env) (s : Shared) (H : Hp) (vs : List V) (Q : VK) (E : XK), Room k (A.deeper (envOfC qual scope s.heap.objs.size f cdv)) → sp vs H Q E →
      ∃ t, PSs (cxOf CX P w K mg base N qual scope f cdv A outer s H E) body t ∧ t { nx := fun _ H' => Q .non H', rt := Q } (start N vs) H) :
    FnOk P w K mg base CX (k + 1) f (PySem.W.fnOf name qual params body scope dV kV doc pm an cdv ct) ps sp := by
  refine ⟨len, fun A outer s H args us vs Q E hr e0 hb r hsp => ?_⟩
  have hl := len _ _ _ _ hsp
  have KX : K.In s.heap := e0.mod.kin.keeps fun b o e => (e0.bs b o e).1
  have lim : s.heap.NoLimit := e0.mod.nolimit.keeps fun b o e => (e0.bs b o e).1
  have hkind : ∀ y ∈ ps.zip us, scope.names.lookup y.1 = some .local ∨ (scope.names.lookup y.1 = some .cell ∧ ((cellsFrom (s.heap.objs.size + 1) scope.names []).lookup y.1).isSome = true) := fun ⟨n, v⟩ hy => by
    rcases S.par n (List.of_mem_zip hy).1 with q | q
    · exact .inl q
    · exact .inr ⟨q, PySem.W.cellsFrom_some _ _ _ (.inl q)⟩
  refine codeAny_call_function hr.depth (KX _ _ lk) rfl S.co S.gen rfl (PySem.W.codeRec_of KX hcd) (hb _ _ _ _ ?_)
  refine wpAny_newFunctionEnv_cells S.kind hkind fun env he s1 x => ?_
  subst he
  refine ⟨lim.keeps x.toInCall.keep, codeAny_func ?_⟩
  obtain ⟨t, ht, hq⟩ := hbody A outer s H vs Q E (hr.deeper _) hsp
  have I : Inv (cxOf CX P w K mg base N qual scope f cdv A outer s H E) [] (start N vs) H s1 := inv_start S hr.hd e0 hl r x
  refine wpAny_mono (ht [] s1 (start N vs) H _ I hq) (fun fl s' hs => ?_) fun e s' hs => hs
  have fin : ∀ {σ' : St} {H' : Hp} {v : V} {u : Value}, Inv (cxOf CX P w K mg base N qual scope f cdv A outer s H E) [] σ' H' s' → RelV v u → Q v H' → CE outer P w H s Q u s' :=
    fun {σ' H' v u} J rv q => ⟨v, H', J.os, J.bare, J.base, J.hok, rv, q⟩
  cases fl with
  | ret u =>
    obtain ⟨v, σ', H', J, rv, q⟩ := hs
    exact fin J rv q
  | next =>
    obtain ⟨σ', H', J, q⟩ := hs
    exact fin (v := V.non) (u := Value.none) J rfl q
  | brk =>
    obtain ⟨_, _, _, q⟩ := hs
    exact False.elim q
  | cont =>
    obtain ⟨_, _, _, q⟩ := hs
    exact False.elim q
end L2

namespace L2
open PySem PySem.Spec PyProof.Rows
section
variable {X : Cx} {x : Str} {p pos : Pos} {e : Expr} {es : List Expr} {t : TA} {id T : String} {r : List V → Hp → VK → Prop}

noncomputable def tCB (r : List V → Hp → VK → Prop) (t : TA) : TE := fun σ H Q => t σ H fun vs H1 => r vs H1 Q
/-- f(e, ..), f a built-in function -/
theorem pe_callB (hc : CallR X (.builtin id) r) (hg : Gl X x) (hm : X.mg x = none) (hv : bootBuiltins x = some (.builtin id)) (ha : PA X (e :: es) t) (hn : x ≠ "__name__" := by decide) (hdb : (x == ("__debug__" : Str)) = false := by decide)
    (he : starEach (e :: es) X.env = (false, eval e X.env) :: starEach es X.env := by rfl) (hpl : (backTo pos (starEach es X.env)).any (·.1) = false := by rfl) : PE X (.Call (.Name x p) (e :: es) [] pos) (tCB r t) := by
  intro pins s σ H Q I h
  refine wpAny_Call_Name_kw (ld_blt I hg hm hv ?_ hn hdb)
  exact PyProof.Rows.callWith_builtin1 (thn (ha pos pins s σ H _ I h) fun us s1 ⟨vs, H1, I1, r1, q1⟩ => hc pins s1 σ H1 vs us Q I1 r1 q1) he hpl
/-- T(e, ..), T a built-in type -/
theorem pe_callTy (hc : CallR X (.type T) r) (hg : Gl X x) (hm : X.mg x = none) (hv : bootBuiltins x = some (.type T)) (ha : PA X (e :: es) t) (hn : x ≠ "__name__" := by decide) (hdb : (x == ("__debug__" : Str)) = false := by decide)
    (he : starEach (e :: es) X.env = (false, eval e X.env) :: starEach es X.env := by rfl) (hpl : (backTo pos (starEach es X.env)).any (·.1) = false := by rfl) : PE X (.Call (.Name x p) (e :: es) [] pos) (tCB r t) := by
  intro pins s σ H Q I h
  refine wpAny_Call_Name_kw (ld_blt I hg hm hv ?_ hn hdb)
  exact PyProof.Rows.callWith_type1 (thn (ha pos pins s σ H _ I h) fun us s1 ⟨vs, H1, I1, r1, q1⟩ => hc pins s1 σ H1 vs us Q I1 r1 q1) he hpl
end
end L2

namespace HT
open PySem PyProof.Rows

/-- t < u of tuples of ints -/
noncomputable def lexLt : List Int → List Int → Bool
  | [], [] => false
  | [], _ :: _ => true
  | _ :: _, [] => false
  | x :: xs, y :: ys => if x = y then lexLt xs ys else decide (x < y)
section
open PySem.SeqAt
open PySem.AutoSeq1 (wpAny_loadPart')
open PySem.MeetsSeq PySem.MeetsSeq2 PySem.MeetsSeq3

end

section
variable {prog : Program} {w : World} {A : Around} {E : Value → Shared → Prop} {s : Shared}

/-! ### t[a:b], not the whole -/
/-- a slice's bound as a place among n (d where it is left out) -/
noncomputable def sIx (n d : Nat) : Option Int → Nat
  | none => d
  | some v => if v < 0 then (v + (n : Int)).toNat else min v.toNat n
end
end HT

namespace L2
open PySem PySem.Spec PyProof.Rows

/-! ### the parts of a slice -/
noncomputable abbrev TO := St → Hp → (Option Int → Hp → Prop) → Prop
/-- a slice's part (left out, or an int) -/
noncomputable def PO (X : Cx) (e : Option Expr) (t : TO) : Prop :=
  ∀ (pins : List (Addr × Obj)) (s : Shared) (σ : St) (H : Hp) (Q : Option Int → Hp → Prop), Inv X pins σ H s → t σ H Q →
    wpAny (model X.prog X.w) X.A (evalPart e X.env) (fun u s' => ∃ o H', Inv X pins σ H' s' ∧ IsPart u o ∧ Q o H') X.xe s
noncomputable def tNoPart : TO := fun _ H Q => Q none H
noncomputable def tPart (t : TE) : TO := fun σ H Q => t σ H fun x H1 => ∃ i, x = .int i ∧ Q (some i) H1

section
variable {X : Cx} {e : Expr} {te : TE} {lo hi : Option Expr} {tl th : TO} {pos p2 : Pos}

theorem po_none : PO X none tNoPart := by
  intro pins s σ H Q I h
  rw [evalPart_none]
  exact wpAny_pure ⟨none, H, I, .none, h⟩
theorem po_some (h : PE X e te) : PO X (some e) (tPart te) := by
  intro pins s σ H Q I hw
  rw [evalPart_some]
  refine thn (h pins s σ H _ I hw) fun u s1 ⟨x, H1, I1, r1, q1⟩ => ?_
  obtain ⟨i, rfl, q⟩ := q1
  obtain ⟨t, rfl⟩ := r1
  exact ⟨some i, H1, I1, .int i t, q⟩

/-- what a slice of a value is, by values: the slice object stands at sl -/
noncomputable def SlR (X : Cx) (r : V → Option Int → Option Int → Hp → VK → Prop) : Prop :=
  ∀ (pins : List (Addr × Obj)) (s : Shared) (σ : St) (H : Hp) (x : V) (v vl vu : Value) (lo hi : Option Int) (sl : Addr) (Q : VK), Inv X pins σ H s → RelV x v → s.heap.IsSliceOf sl vl vu .none → IsPart vl lo → IsPart vu hi → r x lo hi H Q →
    ∃ T id, typeLookup (.type T) "__getitem__" = pure (some (.builtin id)) ∧ s.TypeIs v T ∧ wpAny (model X.prog X.w) X.A (getItem v (.ref sl)) (EP X pins σ Q) X.xe s
noncomputable def tSl (r : V → Option Int → Option Int → Hp → VK → Prop) (te : TE) (tl th : TO) : TE := fun σ H Q => te σ H fun x H1 => tl σ H1 fun l H2 => th σ H2 fun u H3 => r x l u H3 Q
/-- a[lo:hi], any a -/
theorem pe_slice {r : V → Option Int → Option Int → Hp → VK → Prop} (hr : SlR X r) (he : PE X e te) (hl : PO X lo tl) (hu : PO X hi th) : PE X (.Subscript e (.Slice lo hi none p2) pos) (tSl r te tl th) := by
  intro pins s σ H Q I h
  refine Subscript_ (thn (he pins s σ H _ I h) fun v s1 ⟨x, H1, I1, r1, q1⟩ => ?_)
  refine wpAny_Slice (thn (hl pins s1 σ H1 _ I1 q1) fun vl s2 ⟨l, H2, I2, pl, q2⟩ => thn (hu pins s2 σ H2 _ I2 q2) fun vu s3 ⟨u, H3, I3, pu, q3⟩ => ?_)
  rw [evalPart_none]
  refine wpAny_pure ?_
  have I4 : Inv X pins σ H3 { s3 with heap := s3.heap.push { cls := .type "slice", data := .fields #[vl, vu, .none] } } := I3.kept (t' := s3.toks) fun b ob q => Heap.get?_push_of_some _ q
  obtain ⟨T, id, hT, ht, hg⟩ := hr pins { s3 with heap := s3.heap.push { cls := .type "slice", data := .fields #[vl, vu, .none] } } σ H3 x v vl vu l u s3.heap.objs.size Q I4 r1 (Heap.IsSliceOf.new ..) pl pu q3
  show wpAny (model X.prog X.w) X.A (subscriptTail e (.Slice lo hi none p2) v (.ref s3.heap.objs.size)) (EP X pins σ Q) X.xe { s3 with heap := s3.heap.push { cls := .type "slice", data := .fields #[vl, vu, .none] } }
  exact tail_any (ops := [.ref s3.heap.objs.size, v]) ht hT hg (by with_unfolding_all rfl)

/-- the items of xs[lo:hi] -/
noncomputable def cutV (xs : List V) (lo hi : Option Int) : List V := (xs.drop (HT.sIx xs.length 0 lo)).take (HT.sIx xs.length xs.length hi - HT.sIx xs.length 0 lo)
theorem cutV_length (xs : List V) (lo hi : Option Int) : (cutV xs lo hi).length ≤ xs.length := by
  unfold cutV
  rw [List.length_take, List.length_drop]
  omega
/-- t[lo:hi], not the whole of it (the whole would be t itself) -/
noncomputable def rSlT (K : PySem.W.Frag) : V → Option Int → Option Int → Hp → VK → Prop := fun x lo hi H Q => ∃ a xs, x = .ref a ∧ SqT K H a xs ∧
  ¬ (HT.sIx xs.length 0 lo = 0 ∧ HT.sIx xs.length xs.length hi = xs.length) ∧ ∀ p, H p = none → Q (.ref p) (upd H p (.tup (cutV xs lo hi)))
/-! ### t < u, t + u -/
noncomputable def rLtT (K : PySem.W.Frag) : R2 := fun x y H Q => ∃ a b ns ms, x = .ref a ∧ y = .ref b ∧ SqT K H a (ns.map V.int) ∧ SqT K H b (ms.map V.int) ∧ Q (.bl (HT.lexLt ns ms)) H
/-- t + u, t not empty: u empty gives t itself -/
noncomputable def rCatT (K : PySem.W.Frag) : R2 := fun x y H Q => ∃ a b xs ys, x = .ref a ∧ y = .ref b ∧ SqT K H a xs ∧ SqT K H b ys ∧ xs ≠ [] ∧ xs.length + ys.length ≤ sizeLine ∧
  (ys = [] → Q (.ref a) H) ∧ (ys ≠ [] → ∀ p, H p = none → Q (.ref p) (upd H p (.tup (xs ++ ys))))
end
end L2

namespace L2
open PySem PySem.Spec PyProof.Rows

/-! ### places -/
/-- the place that an index of any sign means -/
noncomputable def ixN (n : Nat) (i : Int) : Option Nat := if 0 ≤ i then (if i < n then some i.toNat else none) else if -(n : Int) ≤ i then some (i + n).toNat else none
noncomputable def atI {α : Type} (xs : List α) (i : Int) : Option α := (ixN xs.length i).bind fun j => xs[j]?
theorem ixN_seq {n : Nat} {i : Int} {j : Nat} (h : ixN n i = some j) : seqIndex? i n = some j ∧ j < n ∧ -(n : Int) ≤ i ∧ i < n := by
  unfold ixN at h
  by_cases h0 : 0 ≤ i
  · rw [if_pos h0] at h
    by_cases h1 : i < n
    · rw [if_pos h1] at h
      have e : i.toNat = j := Option.some.inj h
      exact ⟨by rw [seqIndex_of h0 h1, e], by (clear h; omega), by (clear e h1 h; omega), h1⟩
    · rw [if_neg h1] at h; cases h
  · rw [if_neg h0] at h
    by_cases h1 : -(n : Int) ≤ i
    · rw [if_pos h1] at h
      have e : (i + n).toNat = j := Option.some.inj h
      exact ⟨by rw [seqIndex_neg (by (clear e h1 h; omega)) h1, e], by (clear h; omega), h1, by (clear e h; omega)⟩
    · rw [if_neg h1] at h; cases h
theorem atI_get {α : Type} {xs : List α} {i : Int} {v : α} (h : atI xs i = some v) : ∃ j, seqIndex? i xs.length = some j ∧ xs[j]? = some v ∧ j < xs.length ∧ -(xs.length : Int) ≤ i ∧ i < xs.length := by
  unfold atI at h
  cases e : ixN xs.length i with
  | none => rw [e] at h; cases h
  | some j =>
    rw [e] at h
    obtain ⟨h1, h2, h3, h4⟩ := ixN_seq e
    exact ⟨j, h1, h, h2, h3, h4⟩
theorem atI_nat {α : Type} {xs : List α} {j : Nat} {v : α} (h : xs[j]? = some v) : atI xs (j : Int) = some v := by
  have hj : j < xs.length := (List.getElem?_eq_some_iff.mp h).1
  have e : ixN xs.length (j : Int) = some j := by
    unfold ixN
    rw [if_pos (by (clear hj h; omega)), if_pos (by (clear h; omega))]; simp
  unfold atI; rw [e]; exact h
theorem atI_last {α : Type} (xs : List α) (v : α) : atI (xs ++ [v]) (-1) = some v := by
  have hl : (xs ++ [v]).length = xs.length + 1 := by simp
  have e : ixN (xs ++ [v]).length (-1) = some xs.length := by
    unfold ixN
    rw [hl, if_neg (by decide), if_pos (by (clear hl; omega))]
    congr 1
    (clear hl; omega)
  unfold atI
  rw [e]
  show (xs ++ [v])[xs.length]? = some v
  simp

/-! ### what may be subscripted -/
/-- what stands as an index of a plain subscript -/
noncomputable def PlainIx (b : Expr) : Prop := ∀ o i, subscripted b false o i = operate [o, i] (getItem o i)
/-- a subscript by values -/
noncomputable def IxR (X : Cx) (r : R2) : Prop :=
  ∀ (value slice : Expr) (pins : List (Addr × Obj)) (s : Shared) (σ : St) (H : Hp) (x y : V) (v u : Value) (Q : VK), Inv X pins σ H s → RelV x v → RelV y u → r x y H Q →
    subscripted slice false v u = operate [v, u] (getItem v u) → wpAny (model X.prog X.w) X.A (subscriptTail value slice v u) (EP X pins σ Q) X.xe s
/-- a call of a builtin's method by values: the receiver, the arguments -/
noncomputable def MtR (X : Cx) (id : String) (r : V → List V → Hp → VK → Prop) : Prop :=
  ∀ (pins : List (Addr × Obj)) (s : Shared) (σ : St) (H : Hp) (x : V) (xs : List V) (v : Value) (us : List Value) (Q : VK), Inv X pins σ H s → RelV x v → Vals xs us → r x xs H Q →
    wpAny (model X.prog X.w) X.A (call (.builtin id) (v :: us)) (EP X pins σ Q) X.xe s
section
variable {X : Cx} {a b : Expr} {ta tb : TE} {pos : Pos}
theorem IxR.or {r r' : R2} (h : IxR X r) (h' : IxR X r') : IxR X (fun x y H Q => r x y H Q ∨ r' x y H Q) := by
  intro value slice pins s σ H x y v u Q I rx ry q hs
  rcases q with q | q
  · exact h value slice pins s σ H x y v u Q I rx ry q hs
  · exact h' value slice pins s σ H x y v u Q I rx ry q hs
/-- a[b] -/
theorem pe_ix {r : R2} (hr : IxR X r) (ha : PE X a ta) (hb : PE X b tb) (hs : PlainIx b) : PE X (.Subscript a b pos) (tOp r ta tb) := by
  intro pins s σ H Q I h
  exact Subscript_ (binT ha hb I h fun v u s2 x y H2 I2 rx ry q => hr a b pins s2 σ H2 x y v u Q I2 rx ry q (hs _ _))

noncomputable def rIxL (K : PySem.W.Frag) : R2 := fun x y H Q => ∃ p xs i v, x = .ref p ∧ y = .int i ∧ SqL K H p xs ∧ atI xs i = some v ∧ Q v H
noncomputable def rIxT (K : PySem.W.Frag) : R2 := fun x y H Q => ∃ p xs i v, x = .ref p ∧ y = .int i ∧ SqT K H p xs ∧ atI xs i = some v ∧ Q v H
noncomputable def rIxS : R2 := fun x y H Q => ∃ z i c, x = .str z ∧ y = .int i ∧ z.length ≤ sizeLine ∧ atI z.cps.toList i = some c ∧ Q (.str ⟨#[c]⟩) H
theorem ix_list : IxR X (rIxL X.K) := by
  intro value slice pins s σ H x y v u Q I rx ry h hs
  obtain ⟨p, xs, i, z, rfl, rfl, hq, he, q⟩ := h
  cases rx
  obtain ⟨t, rfl⟩ := ry
  obtain ⟨its, r, pl, hz⟩ := I.list hq
  obtain ⟨j, h1, h2, h3, h4, h5⟩ := atI_get he
  obtain ⟨w, ew, rw'⟩ := r.get h2
  have hl := r.length
  have hn := line63
  have fin : EP X pins σ Q w s := ⟨z, H, I, rw', q⟩
  by_cases h0 : 0 ≤ i
  · have hj : i.toNat = j := by
      rw [seqIndex_of h0 h5] at h1
      exact Option.some.inj h1
    exact item_listR pl.isList h0 (by (clear hj h0 ew h4 h3 h2 h1 hs he; omega)) (by rw [hj]; simpa using ew) fin hs
  · have hj : (i + (its.toArray.size : Int)).toNat = j := by
      rw [seqIndex_neg (by (clear hn hl ew h5 h4 h3 h2 h1 hz hs he; omega)) h4] at h1
      rw [List.size_toArray, ← hl]
      exact Option.some.inj h1
    exact subscriptTail_builtinR (x := w) pl.isList.typeIs slot_list_getitem.lookup
      (wpAny_getItem_list_neg (Q := fun r s' => r = w ∧ EP X pins σ Q r s') pl.isList (by (clear hj hn hl ew h5 h4 h3 h2 h1 hz hs he; omega)) (by rw [List.size_toArray] <;> (clear hj h0 hn ew h5 h3 h2 h1 hz hs he; omega)) (by (clear hj h0 ew h5 h3 h2 h1 hs he; omega)) (by rw [hj]; simpa using ew) ⟨rfl, fin⟩) hs
theorem ix_tup : IxR X (rIxT X.K) := by
  intro value slice pins s σ H x y v u Q I rx ry h hs
  obtain ⟨p, xs, i, z, rfl, rfl, hq, he, q⟩ := h
  cases rx
  obtain ⟨t, rfl⟩ := ry
  obtain ⟨its, r, pl, hz⟩ := I.tuple hq
  obtain ⟨j, h1, h2, h3, h4, h5⟩ := atI_get he
  obtain ⟨w, ew, rw'⟩ := r.get h2
  have hl := r.length
  have hn := line63
  have fin : EP X pins σ Q w s := ⟨z, H, I, rw', q⟩
  exact subscriptTail_builtinR (x := w) pl.typeIs slot_tuple_getitem.lookup
    (getItem_tuple (j := j) (Q := fun r s' => r = w ∧ EP X pins σ Q r s') pl (by (clear ew h5 h2 h1 hs he; omega)) (by (clear ew h4 h2 h1 hs he; omega)) (by rw [List.size_toArray, ← hl]; exact h1) (by simpa using ew) ⟨rfl, fin⟩) hs
theorem ix_str : IxR X rIxS := by
  intro value slice pins s σ H x y v u Q I rx ry h hs
  obtain ⟨z, i, c, rfl, rfl, hz, he, q⟩ := h
  obtain ⟨t, rfl⟩ := rx
  obtain ⟨t', rfl⟩ := ry
  obtain ⟨j, h1, h2, h3, h4, h5⟩ := atI_get he
  have hl : z.cps.toList.length = z.length := by simp [Str.length]
  rw [hl] at h1 h4 h5
  have hn := line63
  exact tail_any (typeIs_str s z t) slot_str_getitem.lookup (getItem_str (c := c) (by
    have e1 : decide (i < -(2 ^ 63 : Int)) = false := decide_eq_false (by (clear h5 h3 h2 h1 hs he; omega))
    have e2 : decide (i ≥ 2 ^ 63) = false := decide_eq_false (by (clear e1 h4 h3 h2 h1 hs he; omega))
    rw [e1, e2, Bool.or_false]) (by rw [h1]; simpa using h2) ⟨.str ⟨#[c]⟩, H, I.tok _, ⟨_, rfl⟩, q⟩) hs
/-- list, tuple or str -/
noncomputable def rIx (K : PySem.W.Frag) : R2 := fun x y H Q => rIxL K x y H Q ∨ rIxT K x y H Q ∨ rIxS x y H Q
theorem ix_seq : IxR X (rIx X.K) := ix_list.or (ix_tup.or ix_str)

/-! ### xs[i] = v, any sign -/
/-- the list's object behind a store -/
theorem mapSeq_set (its : List Value) (n j : Nat) (u : Value) : Obj.mapSeq (·.setIfInBounds j u) { cls := .type "list", data := .seq its.toArray n } = { cls := .type "list", data := .seq (its.set j u).toArray n } := by
  simp [Obj.mapSeq]
theorem Inv.lst {pins : List (Addr × Obj)} {σ : St} {H : Hp} {s : Shared} {p : Addr} {xs : List V} (I : Inv X pins σ H s) (h : H p = some (.lst xs)) :
    ∃ (its : List Value) (n : Nat), Vals xs its ∧ s.heap.get? p = some { cls := .type "list", data := .seq its.toArray n } ∧ xs.length ≤ sizeLine := by
  obtain ⟨z, its, n, r, e⟩ := I.hok p _ h
  exact ⟨its, n, r, e, z⟩
/-- the list at p is written by an update of its object -/
theorem Inv.lstUpd {pins : List (Addr × Obj)} {σ : St} {H : Hp} {s : Shared} {p : Addr} {xs ys : List V} {its its' : List Value} {n n' : Nat} {f : Obj → Obj} (I : Inv X pins σ H s) (h : H p = some (.lst xs))
    (ho : s.heap.get? p = some { cls := .type "list", data := .seq its.toArray n }) (hf : f { cls := .type "list", data := .seq its.toArray n } = { cls := .type "list", data := .seq its'.toArray n' }) (r : Vals ys its') (hz : ys.length ≤ sizeLine) (t : Nat) :
    Inv X pins σ (upd H p (.lst ys)) { s with heap := s.heap.update p f, toks := t } := by
  have e : (s.heap.update p f).get? p = some { cls := .type "list", data := .seq its'.toArray n' } := by
    rw [Heap.get?_update_self f ho (by rw [hf] <;> rfl), hf]
  refine I.write (x := p) (e := p) (by rw [h]; trivial) (.inl rfl) (fun b u hb q => (Heap.get?_update_other _ _ (Ne.symm hb)).trans q) ⟨_, e⟩ ?_
  exact ⟨hz, its', n', r, e⟩
noncomputable def rSetL : V → V → V → Hp → (Hp → Prop) → Prop := fun o i v H Q => ∃ p xs k j, o = .ref p ∧ i = .int k ∧ H p = some (.lst xs) ∧ ixN xs.length k = some j ∧ Q (upd H p (.lst (xs.set j v)))
theorem set_list : PSet X rSetL := by
  intro pins s σ H o i v ov iv u Q I ro ri rv h
  obtain ⟨p, xs, k, j, rfl, rfl, hp, hj, q⟩ := h
  cases ro
  obtain ⟨t, rfl⟩ := ri
  obtain ⟨its, n, r, ho, hz⟩ := I.lst hp
  obtain ⟨h1, h2, h3, h4⟩ := ixN_seq hj
  have hl := r.length
  have hn := line63
  have I' : Inv X pins σ (upd H p (.lst (xs.set j v))) { s with heap := s.heap.update p (Obj.mapSeq (·.setIfInBounds j u)) } :=
    I.lstUpd hp ho (mapSeq_set its n j u) (r.set rv j) (by rw [List.length_set]; exact hz) s.toks
  by_cases h0 : 0 ≤ k
  · have hk : k.toNat = j := by
      rw [seqIndex_of h0 h4] at h1
      exact Option.some.inj h1
    exact PySem.W.ki_setAt ho h0 (by (clear hk h0 h3 h2 h1 ho hj hp; omega)) (by rw [List.size_toArray, ← hl]; exact h4) (by rw [hk]; exact ⟨_, I', q⟩)
  · have hk : (k + (its.toArray.size : Int)).toNat = j := by
      rw [seqIndex_neg (by (clear hn hl h4 h3 h2 h1 hz ho hj hp; omega)) h3] at h1
      rw [List.size_toArray, ← hl]
      exact Option.some.inj h1
    exact PySem.W.ki_setBack ho (by (clear hk hn hl h4 h3 h2 h1 hz ho hj hp; omega)) (by rw [List.size_toArray, ← hl]; exact h3) (by (clear hk h0 h4 h2 h1 ho hj hp; omega)) (by rw [hk]; exact ⟨_, I', q⟩)

/-! ### slices -/
theorem slice_bounds (lo hi : Option Int) (n : Nat) : (sliceBounds lo hi none n).1 = ((HT.sIx n 0 lo : Nat) : Int) ∧ (sliceBounds lo hi none n).2.1 = ((HT.sIx n n hi : Nat) : Int) ∧ (sliceBounds lo hi none n).2.2 = 1 := by
  refine ⟨?_, ?_, rfl⟩
  · cases lo with
    | none => simp [sliceBounds, HT.sIx]
    | some i =>
      simp only [sliceBounds, HT.sIx, Option.getD_none, show (1 : Int) > 0 by decide, if_true]
      by_cases h : i < 0
      · simp only [h, if_true] <;> omega
      · simp only [h, if_false] <;> omega
  · cases hi with
    | none => simp [sliceBounds, HT.sIx]
    | some i =>
      simp only [sliceBounds, HT.sIx, Option.getD_none, show (1 : Int) > 0 by decide, if_true]
      by_cases h : i < 0
      · simp only [h, if_true] <;> omega
      · simp only [h, if_false] <;> omega
theorem slicePick_cut (its : List Value) (lo hi : Option Int) : slicePick its.toArray lo hi none = ((its.drop (HT.sIx its.length 0 lo)).take (HT.sIx its.length its.length hi - HT.sIx its.length 0 lo)).toArray := by
  obtain ⟨h1, h2, h3⟩ := slice_bounds lo hi its.toArray.size
  unfold slicePick
  rw [h1, h2, h3]
  simp only [sliceRange_one, pick_run, List.size_toArray] <;> rfl
/-- xs[lo:hi] of a list: a new list -/
noncomputable def rSlL (K : PySem.W.Frag) : V → Option Int → Option Int → Hp → VK → Prop := fun x lo hi H Q => ∃ a xs, x = .ref a ∧ SqL K H a xs ∧ ∀ p, H p = none → Q (.ref p) (upd H p (.lst (cutV xs lo hi)))
theorem sl_list : SlR X (rSlL X.K) := by
  intro pins s σ H x v vl vu lo hi sl Q I rx hs pl pu h
  obtain ⟨a, xs, rfl, hx, q⟩ := h
  cases rx
  obtain ⟨its, r, ht, hz⟩ := I.list hx
  have hlen := r.length
  refine ⟨"list", _, slot_list_getitem.lookup, ht.isList.typeIs, ?_⟩
  refine wpAny_getItem_list_slice ht.isList hs pl pu .none (by simp) ?_ (by rw [List.size_toArray] <;> omega)
  rw [slicePick_cut, ← hlen]
  refine ⟨.ref s.heap.objs.size, _, I.laid (t' := s.toks) (o := .lst (cutV xs lo hi)) (fun b ob q => Heap.get?_push_of_some _ q) (Nat.le_refl _) ?_, rfl, q _ (I.hok.fresh (Nat.le_refl _))⟩
  exact ⟨Nat.le_trans (cutV_length xs lo hi) hz, _, 0, (r.drop (HT.sIx xs.length 0 lo)).take (HT.sIx xs.length xs.length hi - HT.sIx xs.length 0 lo), Heap.get?_push_size _ rfl⟩

/-! ### in, not in: flat items -/
noncomputable def flatV : V → Bool
  | .non => true
  | .bl _ => true
  | .int _ => true
  | .str _ => true
  | _ => false
/-- == of flat values -/
noncomputable def eqV : V → V → Bool
  | .non, .non => true
  | .bl a, .bl b => a == b
  | .bl a, .int b => (if a then 1 else 0) == b
  | .int a, .bl b => a == (if b then 1 else 0)
  | .int a, .int b => a == b
  | .str a, .str b => a == b
  | _, _ => false
/-- the items' answers, read off the values (a value's own answer does not lean on its token) -/
noncomputable def eqU (x : V) (u : Value) : Bool := match u with
  | .none => eqV .non x
  | .bool b => eqV (.bl b) x
  | .int i _ => eqV (.int i) x
  | .str z _ => eqV (.str z) x
  | _ => false
noncomputable def inV (x : V) (xs : List V) : Bool := xs.any fun y => eqV y x
/-- x in a list or tuple of flat items -/
noncomputable def rIn (K : PySem.W.Frag) (neg : Bool) : R2 := fun x y H Q => ∃ p xs, y = .ref p ∧ (SqL K H p xs ∨ SqT K H p xs) ∧ flatV x = true ∧ xs.all flatV = true ∧ Q (.bl (if neg then !inV x xs else inV x xs)) H
/-! ### len, list(x), tuple(x) of any list or tuple that is read -/
theorem call_len_seq : CallR X (.builtin "len") (fun xs H Q => ∃ p ys, xs = [.ref p] ∧ (SqL X.K H p ys ∨ SqT X.K H p ys) ∧ Q (.int ys.length) H) := by
  intro pins s σ H xs us Q I r h
  obtain ⟨p, ys, rfl, hq, q⟩ := h
  obtain ⟨u, rfl, rx⟩ := vals1 r
  cases rx
  have hn := line63
  rcases hq with hq | hq
  · obtain ⟨its, r', pl, hz⟩ := I.list hq
    have hlen := r'.length
    exact Calls.call_len_list pl.isList (by simp only [List.size_toArray] <;> omega) ⟨.int ys.length, H, I.tok _, ⟨s.toks + 1, by rw [List.size_toArray, hlen]⟩, q⟩
  · obtain ⟨its, r', pl, hz⟩ := I.tuple hq
    have hlen := r'.length
    exact len_tuple pl (by simp only [List.size_toArray] <;> omega) ⟨.int ys.length, H, I.tok _, ⟨s.toks + 1, by rw [List.size_toArray, hlen]⟩, q⟩
theorem call_list_of : CallR X (.type "list") (fun xs H Q => ∃ p ys, xs = [.ref p] ∧ (SqL X.K H p ys ∨ SqT X.K H p ys) ∧ ∀ l, H l = none → Q (.ref l) (upd H l (.lst ys))) := by
  intro pins s σ H xs us Q I r h
  obtain ⟨p, ys, rfl, hq, q⟩ := h
  obtain ⟨u, rfl, rx⟩ := vals1 r
  cases rx
  have fin : ∀ (its : List Value), Vals ys its → ys.length ≤ sizeLine → ∀ (h' : Heap) (c' : Nat), (∀ b o', s.heap.get? b = some o' → h'.get? b = some o') →
      h'.get? s.heap.objs.size = some { cls := .type "list", dict := none, data := .seq its.toArray c', slots := #[] } → EP X pins σ Q (.ref s.heap.objs.size) { s with heap := h' } := fun its r' hz h' c' kp e =>
    ⟨.ref s.heap.objs.size, _, I.laid (t' := s.toks) kp (Nat.le_refl _) (show ObjOk X.prog X.w _ h' _ (.lst ys) from ⟨hz, its, c', r', e⟩), rfl, q _ (I.hok.fresh (Nat.le_refl _))⟩
  rcases hq with hq | hq
  · obtain ⟨its, r', pl, hz⟩ := I.list hq
    have hlen := r'.length
    obtain ⟨o, ho, hc, n, hd⟩ := pl.isList
    exact call_list_seq p (.inl rfl) ho hc hd (fun h' c' kp e => fin its r' hz h' c' kp e) (by simp only [List.size_toArray] <;> (clear hd hc ho; omega))
  · obtain ⟨its, r', pl, hz⟩ := I.tuple hq
    have hlen := r'.length
    obtain ⟨o, ho, hc, n, hd⟩ := pl
    exact call_list_seq p (.inr rfl) ho hc hd (fun h' c' kp e => fin its r' hz h' c' kp e) (by simp only [List.size_toArray] <;> (clear hd hc ho; omega))
/-! ### the call of a builtin's method: o.m(..) -/
/-- the value is of that builtin type -/
noncomputable def tyV (K : PySem.W.Frag) (T : String) (x : V) (H : Hp) : Prop := match x with
  | .str _ => T = "str"
  | .int _ => T = "int"
  | .ref p => (T = "list" ∧ ∃ xs, SqL K H p xs) ∨ (T = "tuple" ∧ ∃ o, K.lookup p = some o ∧ o.cls = .type "tuple" ∧ o.dict = none) ∨
      (T = "dict" ∧ ((∃ kvs, H p = some (.dK kvs)) ∨ ∃ kvs, H p = some (.dT kvs))) ∨ (T = "set" ∧ ∃ S n, H p = some (.set S n))
  | _ => False
theorem tyV_is {pins : List (Addr × Obj)} {σ : St} {H : Hp} {s : Shared} {T : String} {x : V} {v : Value} (I : Inv X pins σ H s) (r : RelV x v) (ty : tyV X.K T x H) :
    s.TypeIs v T ∧ ∀ a, v = .ref a → ∃ ob, s.heap.get? a = some ob ∧ ob.dict = none := by
  cases x with
  | str z =>
    obtain ⟨t, rfl⟩ := r
    cases (show T = "str" from ty)
    exact ⟨typeIs_str s z t, fun _ e => nomatch e⟩
  | int i =>
    obtain ⟨t, rfl⟩ := r
    cases (show T = "int" from ty)
    exact ⟨typeIs_int s i t, fun _ e => nomatch e⟩
  | ref p =>
    cases r
    rcases ty with ⟨rfl, xs, hq⟩ | ⟨rfl, o, hk, hc, hd⟩ | ⟨rfl, hk⟩ | ⟨rfl, S, n, hk⟩
    · obtain ⟨its, _, pl, _⟩ := I.list hq
      refine ⟨pl.isList.typeIs, fun a e => ?_⟩
      cases e
      obtain ⟨o, n, e, c, hd, _⟩ := pl
      exact ⟨o, e, hd⟩
    · refine ⟨⟨o, I.kIn p o hk, hc⟩, fun a e => ?_⟩
      cases e
      exact ⟨o, I.kIn _ o hk, hd⟩
    · have z : ∃ o, s.heap.get? p = some o ∧ o.ExactDict := by
        rcases hk with ⟨kvs, hk⟩ | ⟨kvs, hk⟩
        · obtain ⟨_, _, _, _, o, _, _, e, ex, _⟩ := I.hok p _ hk
          exact ⟨o, e, ex⟩
        · obtain ⟨_, _, _, _, o, _, _, e, ex, _⟩ := I.hok p _ hk
          exact ⟨o, e, ex⟩
      obtain ⟨o, e, ex⟩ := z
      refine ⟨⟨o, e, ex.1⟩, fun a e2 => ?_⟩
      cases e2
      exact ⟨o, e, ex.2.1⟩
    · obtain ⟨o, _, _, _, e, ex, _⟩ := I.hok p _ hk
      refine ⟨⟨o, e, ex.1⟩, fun a e2 => ?_⟩
      cases e2
      exact ⟨o, e, ex.2.1⟩
  | _ => exact False.elim ty
noncomputable def tBM0 (K : PySem.W.Frag) (T : String) (r : V → List V → Hp → VK → Prop) (to : TE) : TE := fun σ H Q => to σ H fun x H1 => tyV K T x H1 ∧ r x [] H1 Q
noncomputable def tBM (K : PySem.W.Frag) (T : String) (r : V → List V → Hp → VK → Prop) (to : TE) (t : TA) : TE := fun σ H Q => to σ H fun x H1 => tyV K T x H1 ∧ t σ H1 fun xs H2 => r x xs H2 Q
variable {o e : Expr} {es : List Expr} {to : TE} {t : TA} {name : Str} {apos cpos : Pos} {T id : String} {r : V → List V → Hp → VK → Prop}
theorem pe_bm0 (pa : PlainAttrs T) (slot : Slot T name id) (hty : typeOf (.builtin id) = pure (.type "method_descriptor")) (hm : MtR X id r) (ho : PE X o to)
    (hbase : attributeBase o name X.env (eval o X.env) = eval o X.env := by rfl) (hline : (apos.endLine == cpos.line) = true := by rfl) : PE X (.Call (.Attribute o name apos) [] [] cpos) (tBM0 X.K T r to) := by
  intro pins s σ H Q I h
  refine wpAny_Call_method0_late hbase hline (thn (ho pins s σ H _ I h) fun v s1 ⟨x, H1, I1, r1, ty, q1⟩ => ?_)
  obtain ⟨h1, h2⟩ := tyV_is I1 r1 ty
  exact ⟨T, id, pa, slot, hty, h1, h2, Calls.callWith_builtin rfl (PySem.evalArgs_none (hm pins s1 σ H1 x [] v [] Q I1 r1 .nil q1))⟩
theorem pe_bm (pa : PlainAttrs T) (slot : Slot T name id) (hty : typeOf (.builtin id) = pure (.type "method_descriptor")) (hm : MtR X id r) (ho : PE X o to) (ha : PA X (e :: es) t)
    (hbase : attributeBase o name X.env (eval o X.env) = eval o X.env := by rfl)
    (hfew : ((backTo cpos (starEach (e :: es) X.env)).all (fun x => !x.1) && (backToKw cpos (keywordEach [] X.env)).all (fun x => x.1.isSome)
      && decide ((e :: es).length + ([] : List Keyword).length + (if ([] : List Keyword).isEmpty then 0 else 1) < 30)) = true := by rfl)
    (hline : (apos.endLine == cpos.line) = true := by rfl) (hs : starEach (e :: es) X.env = (false, eval e X.env) :: starEach es X.env := by rfl) (hplain : (backTo cpos (starEach es X.env)).any (·.1) = false := by rfl) :
    PE X (.Call (.Attribute o name apos) (e :: es) [] cpos) (tBM X.K T r to t) := by
  intro pins s σ H Q I h
  refine wpAny_Call_method_late hbase hfew hline rfl (thn (ho pins s σ H _ I h) fun v s1 ⟨x, H1, I1, r1, ty, q1⟩ => ?_)
  obtain ⟨h1, h2⟩ := tyV_is I1 r1 ty
  refine ⟨T, id, pa, slot, hty, h1, h2, ?_⟩
  have hA := ha cpos pins s1 σ H1 _ I1 q1
  rw [hs] at hA ⊢
  refine Calls.callWith_builtin (by show (false || (backTo cpos (starEach es X.env)).any (·.1)) = false; rw [hplain] <;> rfl) (Calls.evalArgs_plain ?_)
  exact thn hA fun us s2 ⟨vs, H2, I2, r2, q2⟩ => hm pins s2 σ H2 x vs v us Q I2 r1 r2 q2
/- xs.append(e), list.index on a module's tuple .. are MtR facts of 06m -/
end
end L2

namespace L2
open PySem PySem.Spec PyProof.Rows

noncomputable def MtM (X : Cx) (id : String) (r : V → List V → Hp → VK → Prop) : Prop :=
  ∀ (pins : List (Addr × Obj)) (s : Shared) (σ : St) (H : Hp) (x : V) (xs : List V) (v : Value) (us : List Value) (Q : VK), Inv X pins σ H s → RelV x v → Vals xs us → r x xs H Q →
    wpAny (model X.prog X.w) X.A (call (.builtin id) (v :: us)) (EP X pins σ Q) X.xe s

/-! ### lists of values -/
theorem Vals.one : ∀ {x : V} {us : List Value}, Vals [x] us → ∃ u, us = [u] ∧ RelV x u
  | _, _, .cons r .nil => ⟨_, rfl, r⟩
theorem Vals.zero : ∀ {us : List Value}, Vals [] us → us = []
  | _, .nil => rfl
theorem Vals.eraseIdx : ∀ {xs : List V} {us : List Value} (i : Nat), Vals xs us → Vals (xs.eraseIdx i) (us.eraseIdx i)
  | _, _, _, .nil => .nil
  | _, _, 0, .cons _ t => t
  | _, _, i + 1, .cons r t => .cons r (Vals.eraseIdx i t)
theorem Vals.rep {xs : List V} {us : List Value} (h : Vals xs us) : ∀ k : Nat, Vals (List.replicate k xs).flatten (List.replicate k us).flatten
  | 0 => .nil
  | k + 1 => by
    rw [List.replicate_succ, List.replicate_succ, List.flatten_cons, List.flatten_cons]
    exact Vals.append h (Vals.rep h k)
theorem len_erase {α : Type} : ∀ (l : List α) (i : Nat), (l.eraseIdx i).length ≤ l.length
  | [], _ => Nat.le_refl _
  | _ :: _, 0 => Nat.le_succ _
  | _ :: r, i + 1 => Nat.succ_le_succ (len_erase r i)
theorem foldl_rep (its : List Value) : ∀ (k : Nat) (acc : List Value),
    List.foldl (fun x1 x2 => x1 ++ x2) acc.toArray (List.replicate k its.toArray) = (acc ++ (List.replicate k its).flatten).toArray
  | 0, acc => by simp
  | k + 1, acc => by
    have e : acc.toArray ++ its.toArray = (acc ++ its).toArray := by simp
    have e2 : (acc ++ its) ++ (List.replicate k its).flatten = acc ++ (List.replicate (k + 1) its).flatten := by
      rw [List.replicate_succ, List.flatten_cons, List.append_assoc]
    rw [← e2, ← foldl_rep its k (acc ++ its), ← e, List.replicate_succ, List.foldl_cons]

section
variable {X : Cx} {pins : List (Addr × Obj)} {σ : St} {H : Hp} {s : Shared} {l b : Addr} {xs ys zs : List V}

/-! ### the two steps: a tracked list is rewritten, a new list is laid -/
theorem Inv.lset {its its' : List Value} {n : Nat} {f : Array Value → Array Value} {t' : Nat} (I : Inv X pins σ H s) (hH : H l = some (.lst xs))
    (e : s.heap.get? l = some { cls := .type "list", data := .seq its.toArray n }) (hf : f its.toArray = its'.toArray) (hv : Vals ys its') (hz : ys.length ≤ sizeLine) :
    Inv X pins σ (upd H l (.lst ys)) { s with heap := s.heap.update l (Obj.mapSeq f), toks := t' } := by
  have q := PySem.IsL.update e f
  rw [hf] at q
  refine I.write (x := l) (e := l) (by rw [hH]; exact trivial) (.inl rfl) (fun b' u hb hu => (Heap.get?_update_other s.heap (Obj.mapSeq f) (Ne.symm hb)).trans hu) ⟨_, q⟩ ?_
  exact ⟨hz, its', _, hv, q⟩
theorem Inv.lnew {its : List Value} {t' : Nat} (I : Inv X pins σ H s) (hv : Vals ys its) (hz : ys.length ≤ sizeLine) :
    Inv X pins σ (upd H s.heap.objs.size (.lst ys)) { s with heap := s.heap.push { cls := .type "list", data := .seq its.toArray }, toks := t' } :=
  I.laid (fun _ _ q => Heap.get?_push_of_some _ q) (Nat.le_refl _) ⟨hz, its, 0, hv, Heap.get?_push_size _ rfl⟩
theorem Inv.fresh (I : Inv X pins σ H s) : H s.heap.objs.size = none := I.hok.fresh (Nat.le_refl _)
theorem Inv.lstM (I : Inv X pins σ H s) (hH : H l = some (.lst xs)) : xs.length ≤ sizeLine ∧ ∃ (its : List Value) (n : Nat), Vals xs its ∧ xs.length = its.length ∧ s.heap.get? l = some { cls := .type "list", data := .seq its.toArray n } := by
  obtain ⟨z, its, n, r, e⟩ := I.hok l _ hH
  exact ⟨z, its, n, r, r.length, e⟩

theorem notLongL {n : Nat} (h : n ≤ sizeLine) : Builtin.List.listTooLong n = false := by
  unfold Builtin.List.listTooLong
  exact decide_eq_false (by omega)
end

section
variable {X : Cx}

/-! ### methods -/
noncomputable def rAppend : V → List V → Hp → VK → Prop := fun x vs H Q => ∃ l xs y, x = .ref l ∧ vs = [y] ∧ H l = some (.lst xs) ∧ xs.length < sizeLine ∧ Q .non (upd H l (.lst (xs ++ [y])))
theorem mt_append : MtM X "list.append" rAppend := by
  intro pins s σ H x vs v us Q I rx rv h
  obtain ⟨l, xs, y, rfl, rfl, hH, hz, q⟩ := h
  cases rx
  obtain ⟨u, rfl, ru⟩ := rv.one
  obtain ⟨z, its, n, r, hl, e⟩ := I.lstM hH
  refine call_meets F.slot_list_append ⟨_, e, rfl⟩ F.entry_list_append (F.args_list_append_2 _ _) (PySem.list_append l its.toArray n u (by rw [List.size_toArray]; (clear e z hH; omega))) ⟨e, ?_⟩
  refine ⟨.non, _, I.lset (its' := its ++ [u]) hH e (by simp) (r.append (.cons ru .nil)) ?_, rfl, q⟩
  rw [List.length_append, List.length_singleton]
  (clear e z hH; omega)

noncomputable def rExtend : V → List V → Hp → VK → Prop := fun x vs H Q => ∃ l b xs zs, x = .ref l ∧ vs = [.ref b] ∧ H l = some (.lst xs) ∧ H b = some (.lst zs) ∧ xs.length + zs.length ≤ sizeLine ∧ Q .non (upd H l (.lst (xs ++ zs)))
noncomputable def rPop : V → List V → Hp → VK → Prop := fun x vs H Q => ∃ l xs y, x = .ref l ∧ vs = [] ∧ H l = some (.lst xs) ∧ xs[xs.length - 1]? = some y ∧ Q y (upd H l (.lst xs.dropLast))
noncomputable def rPopAt : V → List V → Hp → VK → Prop := fun x vs H Q => ∃ l xs i k y, x = .ref l ∧ vs = [.int i] ∧ H l = some (.lst xs) ∧ -(2 ^ 63) ≤ i ∧ i < 2 ^ 63 ∧ seqIndex? i xs.length = some k ∧ xs[k]? = some y ∧ Q y (upd H l (.lst (xs.eraseIdx k)))
theorem mt_popAt : MtM X "list.pop" rPopAt := by
  intro pins s σ H x vs v us Q I rx rv h
  obtain ⟨l, xs, i, k, y, rfl, rfl, hH, h1, h2, hk, hy, q⟩ := h
  cases rx
  obtain ⟨u, rfl, ru⟩ := rv.one
  obtain ⟨t, rfl⟩ := ru
  obtain ⟨z, its, n, r, hl, e⟩ := I.lstM hH
  obtain ⟨w, hw, rw'⟩ := r.get hy
  refine call_meets F.slot_list_pop ⟨_, e, rfl⟩ F.entry_list_pop (F.args_list_pop_2 _ _)
    (MeetsSeq.list_pop_at l its.toArray n i t k w (fitsIndex_both h1 h2) (by rw [List.size_toArray, ← hl]; exact hk) (by rw [← Array.getElem?_toList]; exact hw) (by rw [List.size_toArray]; (clear hw e hy hk h2 h1 hH; omega))) ⟨e, ?_⟩
  refine ⟨y, _, I.lset (its' := its.eraseIdx k) hH e ?_ (r.eraseIdx k) ?_, rw', q⟩
  · show its.toArray.eraseIdxIfInBounds k = (its.eraseIdx k).toArray
    rw [List.eraseIdxIfInBounds_toArray]
  · have := len_erase xs k
    (clear hw e hy hk h2 h1 hH; omega)

noncomputable def rReverse : V → List V → Hp → VK → Prop := fun x vs H Q => ∃ l xs, x = .ref l ∧ vs = [] ∧ H l = some (.lst xs) ∧ Q .non (upd H l (.lst xs.reverse))
noncomputable def rClear : V → List V → Hp → VK → Prop := fun x vs H Q => ∃ l xs, x = .ref l ∧ vs = [] ∧ H l = some (.lst xs) ∧ Q .non (upd H l (.lst []))
theorem mt_clear : MtM X "list.clear" rClear := by
  intro pins s σ H x vs v us Q I rx rv h
  obtain ⟨l, xs, rfl, rfl, hH, q⟩ := h
  cases rx
  have hus := rv.zero
  subst hus
  obtain ⟨z, its, n, r, hl, e⟩ := I.lstM hH
  refine call_meets F.slot_list_clear ⟨_, e, rfl⟩ F.entry_list_clear (F.args_list_clear_1 _) (AutoSeq1.list_clear_list_0 l its.toArray n (by rw [List.size_toArray]; (clear e hH; omega))) ⟨e, ?_⟩
  exact ⟨.non, _, I.lset (its' := []) (ys := []) hH e rfl .nil (Nat.zero_le _), rfl, q⟩

/-! ### list + list, list += list, list * int -/
noncomputable def rCat : R2 := fun x y H Q => ∃ l b xs zs, x = .ref l ∧ y = .ref b ∧ H l = some (.lst xs) ∧ H b = some (.lst zs) ∧ xs.length + zs.length ≤ sizeLine ∧ ∀ p, H p = none → Q (.ref p) (upd H p (.lst (xs ++ zs)))
/-- a list times an int (a negative one is nothing) -/
noncomputable def rRep : R2 := fun x y H Q => ∃ l k xs, x = .ref l ∧ y = .int k ∧ H l = some (.lst xs) ∧ -(2 ^ 63) ≤ k ∧ k < 2 ^ 63 ∧ xs.length * k.toNat ≤ sizeLine ∧
  ∀ p, H p = none → Q (.ref p) (upd H p (.lst (List.replicate k.toNat xs).flatten))
theorem len_rep {α : Type} (xs : List α) (k : Nat) : (List.replicate k xs).flatten.length = k * xs.length := by
  induction k with
  | zero => simp
  | succ k ih => rw [List.replicate_succ, List.flatten_cons, List.length_append, ih, Nat.succ_mul, Nat.add_comm]
theorem op_rep : OpR X (binaryOp .Mult) rRep := by
  intro pins s σ H x y v u Q I rx ry h
  obtain ⟨l, k, xs, rfl, rfl, hH, h1, h2, hz, q⟩ := h
  cases rx
  obtain ⟨t, rfl⟩ := ry
  obtain ⟨z, its, n, r, hl, e⟩ := I.lstM hH
  have hlen : its.toArray.size * k.toNat ≤ sizeLine := by rw [List.size_toArray, ← hl]; exact hz
  have hcap : ¬ its.toArray.size * k.toNat > (2 ^ 63 - 1) / 8 := by
    have : (sizeLine : Nat) ≤ (2 ^ 63 - 1) / 8 := by decide
    (clear e hl z hz h2 h1 hH; omega)
  have hfit : ¬ (!Builtin.List.listFitsIndex k) = true := by
    rw [fitsIndex_both h1 h2]
    exact Bool.false_ne_true
  have hlong : ¬ Builtin.List.listTooLong (its.toArray.size * k.toNat) = true := by
    rw [notLongL hlen]
    exact Bool.false_ne_true
  have hnew : List.foldl (fun x1 x2 => x1 ++ x2) #[] (List.replicate (if its.toArray.isEmpty = true then 0 else k.toNat) its.toArray) = (List.replicate k.toNat its).flatten.toArray := by
    have f0 : ∀ m : Nat, List.foldl (fun x1 x2 => x1 ++ x2) #[] (List.replicate m its.toArray) = (List.replicate m its).flatten.toArray := fun m => by
      have := foldl_rep its m []
      rw [List.nil_append] at this
      exact this
    rw [f0]
    cases its with
    | nil => simp
    | cons a r' => rw [if_neg (by simp)]
  refine wpAny_binaryOp_repeat_ref (T := "list") (U := "int") (by decide) ⟨_, e, rfl⟩ (fun s' => typeIs_int s' k t) noFill_list_mul F.fills_int_mul F.slot_int_rmul repeat_list F.slot_int_index.lookup
    (call_meets F.slot_int_rmul (typeIs_int s k t) F.entry_int_rmul (F.args_int_rmul_2 _ _) (int___rmul___int_list k t l its.toArray n)
      ⟨e, rfl, ⟨_, e, rfl⟩, call_meets F.slot_list_mul ⟨_, e, rfl⟩ F.entry_list_mul (F.args_list_mul_2 _ _) (AutoListH.list___mul___list_int_3 l its.toArray n k t hfit hcap hlong) ⟨e, ?_⟩⟩)
  rw [hnew]
  exact ⟨.ref _, _, I.lnew (t' := s.toks) (r.rep k.toNat) (by rw [len_rep, Nat.mul_comm]; exact hz), rfl, q _ I.fresh⟩

/-! ### del xs[i] -/
end

/-! ### xs[a:b] = ys -/
section
variable {prog : Program} {w : World} {A : Around} {E : Value → Shared → Prop} {s : Shared}
set_option maxRecDepth 100000 in
end

section
variable {X : Cx}
end
end L2

namespace L2
open PySem PySem.Spec PyProof.Rows

/-! ### lists of pairs as tables -/
section
variable {κ : Type} [DecidableEq κ]
noncomputable def valV (kvs : List (κ × V)) (k : κ) : Option V := (kvs.find? fun kv => decide (kv.1 = k)).map (·.2)
/-- in its place, or at the end -/
noncomputable def putK (kvs : List (κ × V)) (k : κ) (v : V) : List (κ × V) :=
  if (kvs.any fun kv => decide (kv.1 = k)) = true then kvs.map (fun kv => if kv.1 = k then (kv.1, v) else kv) else kvs ++ [(k, v)]
noncomputable def dropK (kvs : List (κ × V)) (k : κ) : List (κ × V) := kvs.filter fun kv => decide (kv.1 ≠ k)

theorem valV_pos {p : κ × V} {r : List (κ × V)} {k : κ} (e : p.1 = k) : valV (p :: r) k = some p.2 := by simp [valV, List.find?_cons, e]
theorem valV_neg {p : κ × V} {r : List (κ × V)} {k : κ} (e : ¬ p.1 = k) : valV (p :: r) k = valV r k := by simp [valV, List.find?_cons, e]
theorem valV_any (k : κ) : ∀ kvs : List (κ × V), (kvs.any fun kv => decide (kv.1 = k)) = (valV kvs k).isSome
  | [] => rfl
  | p :: r => by
    rw [List.any_cons]
    by_cases e : p.1 = k
    · simp only [valV_pos e, decide_eq_true e, Bool.true_or, Option.isSome_some]
    · rw [valV_neg e, decide_eq_false e, Bool.false_or]; exact valV_any k r
theorem length_putK (kvs : List (κ × V)) (k : κ) (v : V) : (putK kvs k v).length ≤ kvs.length + 1 := by
  unfold putK
  split
  · rw [List.length_map]; omega
  · rw [List.length_append, List.length_cons, List.length_nil]; omega
theorem RelO.isSome_eq {o : Option V} {u : Option Value} (r : RelO o u) : o.isSome = u.isSome := by
  cases o with
  | none => cases u with
    | none => rfl
    | some _ => exact (show False from r).elim
  | some _ => cases u with
    | none => exact (show False from r).elim
    | some _ => rfl
theorem RelO.getD {o : Option V} {u : Option Value} {d : V} {d' : Value} (r : RelO o u) (rd : RelV d d') : RelV (o.getD d) (u.getD d') := by
  cases o with
  | none => cases u with
    | none => exact rd
    | some _ => exact (show False from r).elim
  | some _ => cases u with
    | none => exact (show False from r).elim
    | some _ => exact r

/-- raw tables of the same keys -/
theorem KV.val {kvs : List (κ × V)} {vs : List (κ × Value)} (r : KV kvs vs) (k : κ) : RelO (valV kvs k) (valueAt vs k) := by
  unfold KV at r
  induction r with
  | nil => exact True.intro
  | @cons p q ps qs h t ih =>
    obtain ⟨h1, h2⟩ := h
    by_cases e : p.1 = k
    · have e' : q.1 = k := h1.symm.trans e
      have b : valueAt (q :: qs) k = some q.2 := by simp [valueAt, List.find?_cons, e']
      rw [valV_pos e, b]; exact h2
    · have e' : ¬ q.1 = k := fun z => e (h1.trans z)
      have b : valueAt (q :: qs) k = valueAt qs k := by simp [valueAt, List.find?_cons, e']
      rw [valV_neg e, b]; exact ih
theorem KV.any {kvs : List (κ × V)} {vs : List (κ × Value)} (r : KV kvs vs) (k : κ) : (kvs.any fun kv => decide (kv.1 = k)) = vs.any fun kv => decide (kv.1 = k) := by
  unfold KV at r
  induction r with
  | nil => rfl
  | cons h t ih => rw [List.any_cons, List.any_cons, ih, h.1]
theorem KV.repl {kvs : List (κ × V)} {vs : List (κ × Value)} (r : KV kvs vs) (k : κ) {y : V} {u : Value} (ry : RelV y u) :
    KV (kvs.map fun kv => if kv.1 = k then (kv.1, y) else kv) (vs.map fun kv => if kv.1 = k then (kv.1, u) else kv) := by
  unfold KV at r ⊢
  induction r with
  | nil => exact .nil
  | @cons p q ps qs h t ih =>
    rw [List.map_cons, List.map_cons]
    refine .cons ?_ ih
    obtain ⟨h1, h2⟩ := h
    by_cases e : p.1 = k
    · rw [if_pos e, if_pos (h1.symm.trans e)]; exact ⟨h1, ry⟩
    · rw [if_neg e, if_neg (fun z => e (h1.trans z))]; exact ⟨h1, h2⟩
theorem KV.put {kvs : List (κ × V)} {vs : List (κ × Value)} (r : KV kvs vs) (k : κ) {y : V} {u : Value} (ry : RelV y u) : KV (putK kvs k y) (stored vs k u) := by
  unfold putK stored
  rw [r.any k]
  by_cases e : (vs.any fun kv => decide (kv.1 = k)) = true
  · rw [if_pos e, if_pos e]; exact r.repl k ry
  · rw [if_neg e, if_neg e]; exact Paired.snoc r ⟨rfl, ry⟩
theorem KV.length {kvs : List (κ × V)} {vs : List (κ × Value)} (r : KV kvs vs) : kvs.length = vs.length := Paired.length r
end


/-! ### a tracked dict, its keys ints and texts or tuples of these -/
theorem kV_is {P : Program} {w : World} {k : Key} {u : Value} (r : RelV (kV k) u) : (mixKind P w).is k u = true := by
  cases k with
  | inl i => obtain ⟨t, e⟩ := (show ∃ t, u = Value.int i t from r); subst e; exact mixKind_int P w i t
  | inr x => obtain ⟨t, e⟩ := (show ∃ t, u = Value.str x t from r); subst e; exact mixKind_str P w x t
theorem items_are {P : Program} {w : World} : ∀ {ks : List Key} {us : List Value}, Vals (ks.map kV) us → ItemsAre (mixKind P w) ks us
  | [], _, r => by rw [List.map_nil] at r; cases r; exact .nil
  | k :: ks, _, r => by
    rw [List.map_cons] at r
    cases r with
    | cons h t => exact .cons (kV_is h) (items_are t)

/-- raw entries of a dict with tuple keys -/
noncomputable abbrev KT (H : Hp) : List (List Key × V) → List (List Key × Addr × Value) → Prop := Paired fun p q => p.1 = q.1 ∧ H q.2.1 = some (.tup (p.1.map kV)) ∧ RelV p.2 q.2.2
theorem KT.val {H : Hp} {kvs : List (List Key × V)} {xs : List (List Key × Addr × Value)} (r : KT H kvs xs) (k : List Key) : RelO (valV kvs k) ((atKey xs k).map (·.2)) := by
  induction r with
  | nil => exact True.intro
  | @cons p q ps qs h t ih =>
    obtain ⟨h1, _, h2⟩ := h
    by_cases e : p.1 = k
    · have e' : q.1 = k := h1.symm.trans e
      have b : atKey (q :: qs) k = some q.2 := by simp [atKey, List.find?_cons, e']
      rw [valV_pos e, b]; exact h2
    · have e' : ¬ q.1 = k := fun z => e (h1.trans z)
      have b : atKey (q :: qs) k = atKey qs k := by simp [atKey, List.find?_cons, e']
      rw [valV_neg e, b]; exact ih
theorem KT.repl {H : Hp} {kvs : List (List Key × V)} {xs : List (List Key × Addr × Value)} (r : KT H kvs xs) (k : List Key) {y : V} {u : Value} (ry : RelV y u) :
    KT H (kvs.map fun kv => if kv.1 = k then (kv.1, y) else kv) (xs.map (putAt k u)) := by
  induction r with
  | nil => exact .nil
  | @cons p q ps qs h t ih =>
    rw [List.map_cons, List.map_cons]
    refine .cons ?_ ih
    obtain ⟨h1, h2, h3⟩ := h
    unfold putAt
    by_cases e : p.1 = k
    · rw [if_pos e, if_pos (h1.symm.trans e)]; exact ⟨h1, h2, ry⟩
    · rw [if_neg e, if_neg (fun z => e (h1.trans z))]; exact ⟨h1, h2, h3⟩
theorem KT.put {H : Hp} {kvs : List (List Key × V)} {xs : List (List Key × Addr × Value)} (r : KT H kvs xs) (k : List Key) {b : Addr} {y : V} {u : Value} (hb : H b = some (.tup (k.map kV))) (ry : RelV y u) :
    KT H (putK kvs k y) (storedH xs k b u) := by
  have e : (kvs.any fun kv => decide (kv.1 = k)) = (atKey xs k).isSome := by
    rw [valV_any, (r.val k).isSome_eq, Option.isSome_map]
  unfold putK storedH
  rw [e]
  by_cases q : (atKey xs k).isSome = true
  · rw [if_pos q, if_pos q]; exact r.repl k ry
  · rw [if_neg q, if_neg q]; exact Paired.snoc r ⟨rfl, hb, ry⟩
theorem KT.keeps {H H' : Hp} {kvs : List (List Key × V)} {xs : List (List Key × Addr × Value)} (r : KT H kvs xs) (ht : ∀ b ys, H b = some (.tup ys) → H' b = some (.tup ys)) : KT H' kvs xs :=
  Paired.mapP r fun _ _ z => ⟨z.1, ht _ _ z.2.1, z.2.2⟩

section
variable {P : Program} {w : World} {H : Hp} {h : Heap} {a : Addr}
theorem rd_of {u : HO} (ok : HOk P w H h) (e : Rd H a u) : ObjOk P w H h a u := e.ok ok
theorem dk_rd {kvs : List (Key × V)} (ok : HOk P w H h) (e : Rd H a (.dK kvs)) : kvs.length ≤ sizeLine ∧ (a == sysModules) = false ∧ ∃ vs, KV kvs vs ∧ h.DictOf (mixKind P w) a vs :=
  show ObjOk P w H h a (.dK kvs) from rd_of ok e
theorem dk_of {kvs : List (Key × V)} (ok : HOk P w H h) (e : H a = some (.dK kvs)) : kvs.length ≤ sizeLine ∧ (a == sysModules) = false ∧ ∃ vs, KV kvs vs ∧ h.DictOf (mixKind P w) a vs := dk_rd ok (.inl e)
/-- a tracked tuple of ints and texts is a key -/
theorem key_of {ks : List Key} (ok : HOk P w H h) (e : H a = some (.tup (ks.map kV))) : (tupleKind (mixKind P w)).is h ks a := by
  obtain ⟨_, its, r, o, h1, h2, n, h3⟩ := (show ObjOk P w H h a (.tup (ks.map kV)) from ok a _ e)
  exact ⟨o, its.toArray, n, h1, h2, h3, by simpa using items_are r⟩
theorem dt_rd {kvs : List (List Key × V)} (ok : HOk P w H h) (e : Rd H a (.dT kvs)) : kvs.length ≤ sizeLine ∧ (a == sysModules) = false ∧
    ∃ xs, KT H kvs xs ∧ h.DictOfH (tupleKind (mixKind P w)) a xs := by
  obtain ⟨z, y, xs, r, o, es, ep, h1, h2, h3, h4, h5⟩ := (show ObjOk P w H h a (.dT kvs) from rd_of ok e)
  refine ⟨z, y, xs, r, o, es, ep, h1, h2, h3, h4, fun x hx => ?_, h5⟩
  have all : ∀ {l : List (List Key × V)} {m : List (List Key × Addr × Value)}, KT H l m → ∀ x ∈ m, (tupleKind (mixKind P w)).is h x.1 x.2.1 := by
    intro l m q
    induction q with
    | nil => intro x hx; exact nomatch hx
    | @cons p q ps qs hq t ih =>
      intro x hx
      rcases List.mem_cons.mp hx with e | hx
      · subst e
        exact key_of ok (by rw [← hq.1]; exact hq.2.1)
      · exact ih x hx
  exact all r x hx
theorem dt_of {kvs : List (List Key × V)} (ok : HOk P w H h) (e : H a = some (.dT kvs)) : kvs.length ≤ sizeLine ∧ (a == sysModules) = false ∧
    ∃ xs, KT H kvs xs ∧ h.DictOfH (tupleKind (mixKind P w)) a xs := dt_rd ok (.inl e)
end

/-- what the dict at a holds at the key y -/
noncomputable def DGet (H : Hp) (a : Addr) (y : V) (r : Option V) : Prop :=
  (∃ kvs k, Rd H a (.dK kvs) ∧ y = kV k ∧ r = valV kvs k) ∨ ∃ kvs k b, Rd H a (.dT kvs) ∧ y = .ref b ∧ H b = some (.tup (k.map kV)) ∧ r = valV kvs k
/-- the heap behind a[y] = v -/
noncomputable def DPut (H : Hp) (a : Addr) (y v : V) (H' : Hp) : Prop :=
  (∃ kvs k, H a = some (.dK kvs) ∧ y = kV k ∧ kvs.length < sizeLine ∧ H' = upd H a (.dK (putK kvs k v))) ∨
  ∃ kvs k b, H a = some (.dT kvs) ∧ y = .ref b ∧ H b = some (.tup (k.map kV)) ∧ kvs.length < sizeLine ∧ H' = upd H a (.dT (putK kvs k v))
theorem DGet.k {H : Hp} {a : Addr} {kvs : List (Key × V)} {k : Key} (e : H a = some (.dK kvs)) : DGet H a (kV k) (valV kvs k) := .inl ⟨kvs, k, .inl e, rfl, rfl⟩
theorem DPut.k {H : Hp} {a : Addr} {kvs : List (Key × V)} {k : Key} {v : V} (e : H a = some (.dK kvs)) (hl : kvs.length < sizeLine) : DPut H a (kV k) v (upd H a (.dK (putK kvs k v))) := .inl ⟨kvs, k, e, rfl, hl, rfl⟩
section
variable {X : Cx} {pins : List (Addr × Obj)} {σ : St} {H : Hp} {s : Shared} {a : Addr} {y v : V} {u r : Value} {o : Option V} {A : Around} {E : Value → Shared → Prop}

theorem Inv.big (I : Inv X pins σ H s) : sysModules < s.heap.objs.size := by
  have h : mainGlobals < s.heap.objs.size := (I.mod.glob.keeps I.bk).lt
  exact Nat.lt_trans (by decide) h

/-- d[y], there -/
theorem d_getItem {Q : Value → Shared → Prop} (hu : A.units + 1 < cLine) (I : Inv X pins σ H s) (g : DGet H a y (some v)) (ry : RelV y u) (h : ∀ w' s', Inv X pins σ H s' → RelV v w' → Q w' s') :
    wpAny (model X.prog X.w) A (getItem (.ref a) u) Q E s := by
  rcases g with ⟨kvs, k, e, ey, l⟩ | ⟨kvs, k, b, e, ey, eb, l⟩
  · subst ey
    obtain ⟨z, hd, vs, rel, dd⟩ := dk_rd I.hok e
    obtain ⟨w', hw, rw'⟩ := RelO.some_of (v := v) (o := valueAt vs k) (by rw [l]; exact rel.val k)
    exact wpAny_getItem_of (kV_is ry) dd.mapOf hw (h w' _ (I.tok _) rw')
  · subst ey
    cases (show u = Value.ref b from ry)
    obtain ⟨z, hd, xs, rel, dd⟩ := dt_rd I.hok e
    obtain ⟨w', hw, rw'⟩ := RelO.some_of (v := v) (o := (atKey xs k).map (·.2)) (by rw [l]; exact rel.val k)
    obtain ⟨p, hp, hp2⟩ := Option.map_eq_some_iff.mp hw
    refine wpAny_getItem_heap (tupleKind_room_in1 hu) (key_of I.hok eb) dd hp ?_
    rw [hp2]
    exact h w' _ (I.tok _) rw'
/-- a dict's object is replaced -/
theorem d_write {h' : Heap} {t' : Nat} {ob : HO} (I : Inv X pins σ H s) (mu : Mut (H a)) (hs : Heap.SameBut a s.heap h') (he : ∃ q, h'.get? a = some q) (new : ObjOk X.prog X.w (upd H a ob) h' a ob) :
    Inv X pins σ (upd H a ob) { s with heap := h', toks := t' } :=
  I.write (x := a) (e := a) mu (.inl rfl) (fun b q hb z => (hs.2 b hb).trans z) he new
theorem dk_new {P : Program} {w : World} {H' : Hp} {h' : Heap} {kvs : List (Key × V)} {vs : List (Key × Value)} (z : kvs.length ≤ sizeLine) (hd : (a == sysModules) = false) (rel : KV kvs vs) (dd : h'.DictOf (mixKind P w) a vs) :
    ObjOk P w H' h' a (.dK kvs) := ⟨z, hd, vs, rel, dd⟩
/-- d[y] = v -/
theorem d_setItem {H' : Hp} {Q : Unit → Shared → Prop} (hu : A.units + 1 < cLine) (I : Inv X pins σ H s) (g : DPut H a y v H') (ry : RelV y u) (rv : RelV v r) (h : ∀ s', Inv X pins σ H' s' → Q () s') :
    wpAny (model X.prog X.w) A (setItem (.ref a) u r) Q E s := by
  rcases g with ⟨kvs, k, e, ey, l, eH⟩ | ⟨kvs, k, b, e, ey, eb, l, eH⟩
  · subst ey eH
    obtain ⟨z, hd, vs, rel, dd⟩ := dk_of I.hok e
    have hz : vs.length ≤ sizeLine := by rw [← rel.length]; exact z
    have hl : (putK kvs k v).length ≤ sizeLine := by have := length_putK kvs k v; (clear hz hd z e hu; omega)
    refine wpAny_setItem_pairs (hsz := hz) (kV_is ry) dd fun h' dd' hs => h _ ?_
    have he : ∃ q, h'.get? a = some q := let ⟨q, _, _, hq, _⟩ := dd'; ⟨q, hq⟩
    exact d_write I (by rw [e]; exact True.intro) hs he (dk_new hl hd (rel.put k rv) dd')
  · subst ey eH
    cases (show u = Value.ref b from ry)
    obtain ⟨z, hd, xs, rel, dd⟩ := dt_of I.hok e
    have hz : xs.length ≤ sizeLine := by rw [← Paired.length rel]; exact z
    have hl : (putK kvs k v).length ≤ sizeLine := by have := length_putK kvs k v; (clear hz hd z eb e hu; omega)
    refine wpAny_setItem_heap (hsz := hz) (tupleKind_room_in1 hu) (key_of I.hok eb) dd fun h' dd' hs => h _ ?_
    obtain ⟨q, es, ep, hq, h2, h3, h4, _, h5⟩ := dd'
    refine d_write I (by rw [e]; exact True.intro) hs ⟨q, hq⟩ ⟨hl, hd, _, (rel.put k eb rv).keeps fun c ys ec => ?_, q, es, ep, hq, h2, h3, h4, h5⟩
    rw [upd_ne (ne_of ec e (fun z => nomatch z))]
    exact ec
end

section
variable {X : Cx} {pins : List (Addr × Obj)} {σ : St} {H : Hp} {s : Shared} {a : Addr} {kvs : List (Key × V)} {k : Key} {u : Value} {A : Around} {E : Value → Shared → Prop}
end


/-! ### readings and rules -/
/-- the element of a subscription, not a slice -/
noncomputable def NoSl (i : Expr) : Prop := ∀ ov iv, subscripted i false ov iv = operate [ov, iv] (getItem ov iv)
theorem subD_of {prog : Program} {w : World} {A : Around} {E : Value → Shared → Prop} {s : Shared} {env : Env} {value slice : Expr} {pos : Pos} {T id : String} {Q : Value → Shared → Prop}
    (hl : typeLookup (.type T) "__getitem__" = pure (some (.builtin id))) (hs : NoSl slice)
    (h : wpAny (model prog w) A (eval value env) (fun o s₁ => wpAny (model prog w) A (eval slice env) (fun i s₂ => s₂.TypeIs o T ∧ wpAny (model prog w) A (getItem o i) Q E s₂) E s₁) E s) :
    wpAny (model prog w) A (eval (.Subscript value slice pos) env) Q E s := by
  refine Subscript_ (wpAny_mono h (fun o s₁ h₁ => wpAny_mono h₁ (fun i s₂ h₂ => ?_) fun _ _ x => x) fun _ _ x => x)
  obtain ⟨hT, h₂⟩ := h₂
  unfold subscriptTail
  refine wpAny_bind ?_
  rw [getitemInPython_of_ne hT.not_modules]
  refine wpAny_bind (wpAny_specialOf hT hl ?_)
  have fin : wpAny (model prog w) A (subscripted slice false o i) (fun r s₃ => wpAny (model prog w) A (letTemporaryGo value o r >>= fun _ => pure r) Q E s₃) E s₂ := by
    rw [hs o i]
    exact wpAny_operating (wpAny_mono h₂ (fun r s₃ h₃ => wpAny_bind (wpAny_letTemporaryGo (wpAny_pure h₃))) fun _ _ x => x)
  first
    | exact wpAny_pure (wpAny_bind fin)
    | exact wpAny_bind (wpAny_pure (wpAny_bind fin))
    | exact wpAny_bind fin

theorem dict_typeIs {X : Cx} {pins : List (Addr × Obj)} {σ : St} {H : Hp} {s : Shared} {a : Addr} {y : V} {o : Option V} (I : Inv X pins σ H s) (g : DGet H a y o) : s.TypeIs (.ref a) "dict" := by
  rcases g with ⟨kvs, k, e, _, _⟩ | ⟨kvs, k, b, e, _, _, _⟩
  · obtain ⟨_, _, vs, _, dd⟩ := dk_rd I.hok e
    exact dd.typeIs
  · obtain ⟨_, _, xs, _, dd⟩ := dt_rd I.hok e
    exact dd.typeIs
/-- d[y] -/
noncomputable def tDGet (td ty : TE) : TE := fun σ H Q => td σ H fun x H1 => ty σ H1 fun y H2 => ∃ a v, x = .ref a ∧ DGet H2 a y (some v) ∧ Q v H2
/-- y in d, y not in d -/
noncomputable def tDIn (ty td : TE) : TE := fun σ H Q => ty σ H fun y H1 => td σ H1 fun x H2 => ∃ a o, x = .ref a ∧ DGet H2 a y o ∧ Q (.bl o.isSome) H2
noncomputable def tDNotIn (ty td : TE) : TE := fun σ H Q => ty σ H fun y H1 => td σ H1 fun x H2 => ∃ a o, x = .ref a ∧ DGet H2 a y o ∧ Q (.bl (!o.isSome)) H2
/-- d[y] = v -/
noncomputable def sDPut (td ty tv : TE) : TS := fun D σ H => tv σ H fun v H1 => td σ H1 fun x H2 => ty σ H2 fun y H3 => ∃ a H4, x = .ref a ∧ DPut H3 a y v H4 ∧ D.nx σ H4
/-- d[y] op= v -/
noncomputable def sDAug (td ty tv : TE) (rd : V → V → Hp → VK → Prop) : TS := fun D σ H => td σ H fun x H1 => ty σ H1 fun y H2 => ∃ a v, x = .ref a ∧ DGet H2 a y (some v) ∧
  tv σ H2 fun y2 H3 => rd v y2 H3 fun z H4 => ∃ H5, DPut H4 a y z H5 ∧ D.nx σ H5
/-- del d[y] -/
noncomputable def sDDel (td ty : TE) : TS := fun D σ H => td σ H fun x H1 => ty σ H1 fun y H2 => ∃ a kvs k, x = .ref a ∧ H2 a = some (.dK kvs) ∧ y = kV k ∧ (valV kvs k).isSome = true ∧ D.nx σ (upd H2 a (.dK (dropK kvs k)))

section
variable {X : Cx} {o i e value : Expr} {pos pos' tpos : Pos} {td ty tv : TE}
theorem pe_dget (hu : X.A.units + 1 < cLine) (ho : PE X o td) (hi : PE X i ty) (hs : NoSl i) : PE X (.Subscript o i pos) (tDGet td ty) := by
  intro pins s σ H Q I h
  refine subD_of PySem.F.slot_dict_getitem.lookup hs (thn (ho pins s σ H _ I h) fun u s1 ⟨x, H1, I1, rx, q1⟩ => thn (hi pins s1 σ H1 _ I1 q1) fun iv s2 ⟨y, H2, I2, ry, a, v, ex, g, q2⟩ => ?_)
  subst ex
  obtain rfl : u = Value.ref a := rx
  exact ⟨dict_typeIs I2 g, d_getItem hu I2 g ry fun w' s3 I3 rw' => ⟨v, H2, I3, rw', q2⟩⟩
theorem ps_dput (hu : X.A.units + 1 < cLine) (ho : PE X o td) (hi : PE X i ty) (hv : PE X value tv) (hs : swapsWith value (some (.Subscript o i pos')) pos.line X.env = pure false) :
    PS X (.Assign [.Subscript o i pos'] value pos) (sDPut td ty tv) := by
  intro pins s σ H D I h
  refine wpAny_Assign_Subscript (thn (hv pins s σ H _ I h) fun r s1 ⟨v, H1, I1, rv, q1⟩ => thn (ho pins s1 σ H1 _ I1 q1) fun u s2 ⟨x, H2, I2, rx, q2⟩ => thn (hi pins s2 σ H2 _ I2 q2) fun iv s3 ⟨y, H3, I3, ry, a, H4, ex, g, q3⟩ => ?_) hs
  subst ex
  obtain rfl : u = Value.ref a := rx
  exact d_setItem hu I3 g ry rv fun s4 I4 => ⟨σ, H4, I4, q3⟩
end


/-! ### displays -/
theorem dk_empty {P : Program} {w : World} {H : Hp} (h : Heap) (hb : sysModules < h.objs.size) : ObjOk P w H (h.push { cls := .type "dict", data := .dict #[] }) h.objs.size (.dK []) :=
  ⟨Nat.zero_le _, beq_eq_false_iff_ne.mpr (Ne.symm (Nat.ne_of_lt hb)), [], .nil, Heap.DictOf.new h⟩
/-- {}, to be a dict of the kind that is wanted -/
noncomputable def tDNewK : TE := fun _ H Q => ∀ p, H p = none → Q (.ref p) (upd H p (.dK []))
noncomputable def tDNewT : TE := fun _ H Q => ∀ p, H p = none → Q (.ref p) (upd H p (.dT []))
section
variable {X : Cx} {pos : Pos}
theorem pe_dnewK : PE X (.Dict [] [] pos) tDNewK := fun pins s σ H Q I h =>
  wpAny_Dict_empty ⟨.ref s.heap.objs.size, _, I.laid (a := s.heap.objs.size) (o := .dK []) (t' := s.toks) (fun _ _ q => Heap.get?_push_of_some _ q) (Nat.le_refl _) (dk_empty s.heap I.big), rfl, h _ (I.hok.fresh (Nat.le_refl _))⟩
end

/-- the pairs of a display, from the left -/
noncomputable def tPairs : List (TE × TE) → St → Hp → (List (V × V) → Hp → Prop) → Prop
  | [], _, H, Q => Q [] H
  | (tk, tv) :: r, σ, H, Q => tk σ H fun x H1 => tv σ H1 fun y H2 => tPairs r σ H2 fun ps H3 => Q ((x, y) :: ps) H3
noncomputable abbrev VV : List (V × V) → List (Value × Value) → Prop := Paired fun p q => RelV p.1 q.1 ∧ RelV p.2 q.2
noncomputable def PPs (X : Cx) (pos : Pos) (keys : List (Option Expr)) (values : List Expr) (trs : List (TE × TE)) : Prop :=
  ∀ (pins : List (Addr × Obj)) (s : Shared) (σ : St) (H : Hp) (Q : List (V × V) → Hp → Prop), Inv X pins σ H s → tPairs trs σ H Q →
    wpAny (model X.prog X.w) X.A (evalPairs (pairTrees keys values X.env pos)) (fun vs s' => ∃ ps H', Inv X pins σ H' s' ∧ VV ps vs ∧ Q ps H') X.xe s
noncomputable def mergeK (kvs more : List (Key × V)) : List (Key × V) := more.foldl (fun acc kv => putK acc kv.1 kv.2) kvs
/-- {k: v, ..} with keys ints and texts; the new dict stands empty while the pairs are made -/
noncomputable def tDisp (trs : List (TE × TE)) : TE := fun σ H Q => ∀ p, H p = none → tPairs trs σ (upd H p (.dK [])) fun ps H2 => H2 p = some (.dK []) ∧ ∃ kvs : List (Key × V), ps = kvs.map (fun kv => (kV kv.1, kv.2)) ∧ kvs.length ≤ 15 ∧ Q (.ref p) (upd H2 p (.dK (mergeK [] kvs)))
/-! ### methods -/
/-- a method call o.m(e) of a built-in, with one argument: what must be seen of the text -/
structure M1 (X : Cx) (o : Expr) (m : Str) (apos : Pos) (e : Expr) (cpos : Pos) : Prop where
  base : attributeBase o m X.env (eval o X.env) = eval o X.env
  few : ((backTo cpos (starEach [e] X.env)).all (fun x => !x.1) && (backToKw cpos (keywordEach [] X.env)).all (fun x => x.1.isSome)
    && decide (([e] : List Expr).length + ([] : List Keyword).length + (if ([] : List Keyword).isEmpty then 0 else 1) < 30)) = true
  line : (apos.endLine == cpos.line) = true
  trees : backTo cpos (starEach [e] X.env) = [(false, eval e X.env)]
structure M2 (X : Cx) (o : Expr) (m : Str) (apos : Pos) (e f : Expr) (cpos : Pos) : Prop where
  base : attributeBase o m X.env (eval o X.env) = eval o X.env
  few : ((backTo cpos (starEach [e, f] X.env)).all (fun x => !x.1) && (backToKw cpos (keywordEach [] X.env)).all (fun x => x.1.isSome)
    && decide (([e, f] : List Expr).length + ([] : List Keyword).length + (if ([] : List Keyword).isEmpty then 0 else 1) < 30)) = true
  line : (apos.endLine == cpos.line) = true
  trees : backTo cpos (starEach [e, f] X.env) = [(false, eval e X.env), (false, eval f X.env)]

/-- a is a dict, whatever its keys -/
noncomputable def IsD (H : Hp) (a : Addr) : Prop := (∃ kvs, Rd H a (.dK kvs)) ∨ ∃ kvs, Rd H a (.dT kvs)
theorem isD_at {X : Cx} {pins : List (Addr × Obj)} {σ : St} {H : Hp} {s : Shared} {a : Addr} (I : Inv X pins σ H s) (d : IsD H a) :
    s.TypeIs (.ref a) "dict" ∧ (∀ b, Value.ref a = .ref b → ∃ ob, s.heap.get? b = some ob ∧ ob.dict = none) ∧ (a == sysModules) = false := by
  rcases d with ⟨kvs, e⟩ | ⟨kvs, e⟩
  · obtain ⟨_, hd, vs, _, dd⟩ := dk_rd I.hok e
    refine ⟨dd.typeIs, fun b q => ?_, hd⟩
    cases q
    obtain ⟨ob, _, _, h1, h2, _⟩ := dd
    exact ⟨ob, h1, h2.2.1⟩
  · obtain ⟨_, hd, xs, _, dd⟩ := dt_rd I.hok e
    refine ⟨dd.typeIs, fun b q => ?_, hd⟩
    cases q
    obtain ⟨ob, _, _, h1, h2, _⟩ := dd
    exact ⟨ob, h1, h2.2.1⟩

section
variable {X : Cx} {pins : List (Addr × Obj)} {σ : St} {H : Hp} {s : Shared} {a : Addr} {y d : V} {u r : Value} {o : Option V} {A : Around} {E : Value → Shared → Prop}
/-- d.get(y, x) -/
theorem d_get2 {Q : Value → Shared → Prop} (hu : A.units + 1 < cLine) (I : Inv X pins σ H s) (g : DGet H a y o) (ry : RelV y u) (rd : RelV d r) (h : ∀ w' s', Inv X pins σ H s' → RelV (o.getD d) w' → Q w' s') :
    wpAny (model X.prog X.w) A (call (.builtin "dict.get") [.ref a, u, r]) Q E s := by
  rcases g with ⟨kvs, k, e, ey, l⟩ | ⟨kvs, k, b, e, ey, eb, l⟩
  · subst ey
    obtain ⟨z, hd, vs, rel, dd⟩ := dk_rd I.hok e
    refine call_meetsIn PySem.F.slot_dict_get dd.typeIs PySem.F.entry_dict_get (PySem.F.args_dict_get_3 _ _ _) (meets_dict_get_default (mixKind X.prog X.w) a (kV_is ry) hd r) ⟨_, dd.mapOf, h _ _ (I.tok _) ?_⟩
    rw [l]
    exact (rel.val k).getD rd
  · subst ey
    cases (show u = Value.ref b from ry)
    obtain ⟨z, hd, xs, rel, dd⟩ := dt_rd I.hok e
    refine call_meetsIn PySem.F.slot_dict_get dd.typeIs PySem.F.entry_dict_get (PySem.F.args_dict_get_3 _ _ _) (meetsH_dict_get_default (tupleKind (mixKind X.prog X.w)) a b hd r) ⟨tupleKind_room_in1 hu, k, xs, key_of I.hok eb, dd, h _ _ (I.tok _) ?_⟩
    rw [l]
    exact (rel.val k).getD rd
end

noncomputable def tDGet1 (td ty : TE) : TE := fun σ H Q => td σ H fun x H1 => ∃ a, x = .ref a ∧ IsD H1 a ∧ ty σ H1 fun y H2 => ∃ o, DGet H2 a y o ∧ Q (o.getD .non) H2
noncomputable def tDGet2 (td ty tx : TE) : TE := fun σ H Q => td σ H fun x H1 => ∃ a, x = .ref a ∧ IsD H1 a ∧ ty σ H1 fun y H2 => tx σ H2 fun z H3 => ∃ o, DGet H3 a y o ∧ Q (o.getD z) H3
/-- d.pop(k): there; d.pop(k, x): there or not -/
noncomputable def tDPop1 (td ty : TE) : TE := fun σ H Q => td σ H fun x H1 => ∃ a, x = .ref a ∧ IsD H1 a ∧ ty σ H1 fun y H2 => ∃ kvs k v, H2 a = some (.dK kvs) ∧ y = kV k ∧ valV kvs k = some v ∧ Q v (upd H2 a (.dK (dropK kvs k)))
noncomputable def tDPop2 (td ty tx : TE) : TE := fun σ H Q => td σ H fun x H1 => ∃ a, x = .ref a ∧ IsD H1 a ∧ ty σ H1 fun y H2 => tx σ H2 fun z H3 => ∃ kvs k, H3 a = some (.dK kvs) ∧ y = kV k ∧
  (∀ v, valV kvs k = some v → Q v (upd H3 a (.dK (dropK kvs k)))) ∧ (valV kvs k = none → Q z H3)
section
variable {X : Cx} {o e f : Expr} {apos cpos : Pos} {td ty tx : TE}
theorem pe_dget2 (hu : X.A.units + 1 < cLine) (ho : PE X o td) (he : PE X e ty) (hf : PE X f tx) (m : M2 X o "get" apos e f cpos) : PE X (.Call (.Attribute o "get" apos) [e, f] [] cpos) (tDGet2 td ty tx) := by
  intro pins s σ H Q I h
  refine wpAny_Call_method m.base m.few m.line PySem.F.plainAttrs_dict PySem.F.slot_dict_get PySem.F.type_dict_get (thn (ho pins s σ H _ I h) fun u s1 ⟨x, H1, I1, rx, a, ex, d, q1⟩ => ?_)
  subst ex
  obtain rfl : u = Value.ref a := rx
  obtain ⟨t1, t2, _⟩ := isD_at I1 d
  refine ⟨t1, t2, ?_⟩
  rw [m.trees]
  refine Calls.callWith_builtin rfl (Calls.evalArgs_plain (Calls.spliced_cons (thn (he pins s1 σ H1 _ I1 q1) fun iv s2 ⟨y, H2, I2, ry, q2⟩ =>
    Calls.spliced_cons (thn (hf pins s2 σ H2 _ I2 q2) fun fv s3 ⟨z, H3, I3, rz, ov, g, q3⟩ => Calls.spliced_nil ?_))))
  exact d_get2 hu I3 g ry rz fun w' s4 I4 rw' => ⟨_, H3, I4, rw', q3⟩
end

/-! ### dict(d): a copy -/
section
variable {X : Cx} {pins : List (Addr × Obj)} {σ : St} {H : Hp} {s : Shared} {a : Addr} {kvs : List (Key × V)} {A : Around} {E : Value → Shared → Prop}
end


section
variable {X : Cx} {pins : List (Addr × Obj)} {σ : St} {H : Hp} {s : Shared} {a : Addr} {y : V} {u : Value} {A : Around} {E : Value → Shared → Prop}
end
end L2

namespace Att
open PySem PySem.W PySem.Calls PyProof.Rows

/-! ### the script -/
theorem ints_of_wellAll {P : Params} {h : Heap} : ∀ (ns : List Int) (vs : List Value), WellAll P h vs (ns.map WData.int) → IntsAre vs ns := by
  intro ns
  induction ns with
  | nil =>
    intro vs w
    rw [List.map_nil] at w
    cases w
    exact .nil
  | cons n ns ih =>
    intro vs w
    rw [List.map_cons] at w
    cases w with
    | cons a b =>
      cases a
      exact .cons _ _ (ih _ b)

theorem script_of {l : OpenLaw} {n : Nat} (hn : l.most = some n) {P : Params} {h : Heap} {args : List WData} {vals : List Value}
    (hpre : l.row.toRowW.claim.pre args = true) (hwl : WellAll P h vals args) :
    ∃ a vs ns, vals = [Value.ref a] ∧ args = [WData.list (ns.map WData.int)] ∧ h.get? a = some { cls := .type "list", data := .seq vs.toArray } ∧ IntsAre vs ns ∧ ns.length ≤ n := by
  have hsh : WShape.hasAll [] args [.list .int] = true := (pre_splitW hpre).1
  have hc : l.pre.holds [] { args := args } = true := (pre_splitW hpre).2
  obtain ⟨d, r, rfl, h1, h2⟩ := hasAllW_cons hsh
  obtain rfl := hasAllW_nil h2
  obtain ⟨xs, rfl, h3⟩ := hasW_list h1
  obtain ⟨ns, rfl⟩ := items_int h3
  have hlen : ns.length ≤ n := by
    unfold OpenLaw.pre at hc
    have h4 : (WTm.not (.lt (.lit (.int (n : Int))) (.len (.arg 0)))).holds [] { args := [.list (ns.map .int)] } = true := by
      have h4 := (holds_andW hc).1
      rw [hn] at h4
      exact h4
    have h5 := condW_of h4 (w_not (w_lt w_lit (w_len_list (w_arg rfl))))
    rw [List.length_map] at h5
    refine Nat.le_of_not_lt fun q => ?_
    have q' : (n : Int) < ((ns.length : Nat) : Int) := by (clear h5 h4 hc hsh hpre h1 h3 h2 hn; omega)
    first
      | (rw [decide_eq_true q'] at h5; exact absurd h5 (by decide))
      | (simp at h5; omega)
  cases hwl with
  | cons w1 w2 =>
    cases w2
    cases w1 with
    | list ho hall => exact ⟨_, _, ns, rfl, rfl, ho, ints_of_wellAll ns _ hall, hlen⟩

theorem post_true (l : OpenLaw) (args : List WData) : l.row.toRowW.claim.post args (.bool true) args = true :=
  postW_of (r := l.row.toRowW) (X := (true == true))
    (show WShape.has [] (.bool true) .bool = true by first | rfl | decide | simp [WShape.has, WShape.arms, WShape.armsAll])
    (show (WTm.eq .res (.lit (.bool true))).value [] { args := args, res := some (.bool true), after := args } = some (.bool (true == true)) from w_eq_bool (w_res rfl) w_lit) rfl

/-! ### the attachment: holds_open's last premise (the goal 'hc' behind k_head) from a wpAny of the law's body -/
/-- the same from a codeAny of the CALL (for a layer whose function contracts speak of calls) -/
theorem attach_call {l : OpenLaw} {n : Nat} {q : Program} {loose : List Str} {XP : (Str → Option Value) → Heap → Prop} {YP : World → Heap → Prop} {d : DefRec}
    (hn : l.most = some n) (hdf : d.params.defaults = [])
    (call : ∀ (w : World) (s₀ s₁ : Shared) (mg mb : Str → Option Value) (fa : Addr) (o : Obj) (pm cd doc : Value) (a : Addr) (vs : List Value) (ns : List Int),
      Ground q loose [] XP w s₀ mg mb s₁.heap → YP w s₁.heap →
      s₁.heap.get? fa = some o → o.data = .func (docDef d.name d.params d.body d.scope pm cd doc) → s₁.heap.CodeRec cd d.name → mg d.name = some (.ref fa) →
      s₁.heap.get? a = some { cls := .type "list", data := .seq vs.toArray } → IntsAre vs ns → ns.length ≤ n → s₁.gens = #[] →
      codeAny (model l.prog w) callerA (.call (.ref fa) ⟨[.ref a], []⟩) (fun r s' => r = .ok (.ret (.bool true)) ∧ OldK s₁.heap s'.heap ∧ s'.os = s₁.os ∧ AllBare s'.gens) s₁) :
    WalkO q loose XP YP l.row.toRowW d [] (fun f vs => PySem.call f vs) := by
  intro w s₀ s₁ mg mb G Y fa o pm cd doc dV kV ho hd hcd hD hmg hg args vals as hpre hlay hrd hwl hlo
  obtain rfl : dV = .none := Dflts.none hD hdf
  obtain rfl : kV = .none := Dflts.noKw hD
  obtain ⟨a, vs, ns, rfl, rfl, hobj, hints, hlen⟩ := script_of hn hpre hwl
  refine enter_call (codeAny_mono (call w s₀ s₁ mg mb fa o pm cd doc a vs ns G Y ho (fd_plain hd) hcd hmg hobj hints hlen hg) fun r s' hq => ?_)
  obtain ⟨rfl, h2, h3, h4⟩ := hq
  exact ⟨.inl ⟨.bool true, .bool true, [], rfl, fun _ => rfl, .bool true, post_true l _, fun _ => ⟨List.Pairwise.nil, fun _ hm => (nomatch hm)⟩⟩, h2, h3, h4⟩

/-! ### rules over ANY heap (no ledger) from facts about the written part K: the library's own take a ledger (News) for what they write -/
section
variable {prog : Program} {w : World} {A : Around} {E : Value → Shared → Prop} {s : Shared} {K : Frag}

/-! the whole heap as the ledger: makes every rule that writes through a ledger a rule over any heap -/
noncomputable def noObjs (h : Heap) : Heap := { h with objs := #[] }
noncomputable def ledger (h : Heap) (L d : Addr) : List (Addr × Obj) := (List.range h.objs.size).filterMap fun a => if a = L ∨ a = d then none else (h.get? a).map fun o => (a, o)
end
end Att

namespace L2
open PySem PySem.Spec PyProof.Rows

theorem vals_ints : ∀ {vs : List Value} {ns : List Int}, IntsAre vs ns → Vals (ns.map V.int) vs
  | _, _, .nil => .nil
  | _, _, .cons n t h => .cons ⟨t, rfl⟩ (vals_ints h)

/-- nothing is tracked but the script, known to the object (or it is an object of the module) -/
noncomputable def Only (H : Hp) : Prop := ∀ b, H b = none ∨ ∃ o xs, H b = some (.frz o (.lst xs))

/-- THE HEAD: the law's promise, at the heap behind the top. F, the promise of the law's def, may use that base is part of the heap (so K.In base, base.Ns mainGlobals mg stand in Mod) -/
theorem law_call {P : Program} {w : World} {K : PySem.W.Frag} {mg mb : Str → Option Value} {CX : CXT} {k : Nat} {fa a : Addr} {fd : FuncData} {x : Str} {sp : Sp} {s₁ : Shared} {vs : List Value} {ns : List Int}
    (KX : K.In s₁.heap) (hns : s₁.heap.Ns mainGlobals mg) (hb : s₁.heap.Ns builtinsNs mb) (hbb : ∀ x : Str, x ≠ "__name__" → mb x = bootBuiltins x) (hlim : s₁.heap.NoLimit) (hg : s₁.gens = #[])
    (ha : s₁.heap.get? a = some { cls := .type "list", data := .seq vs.toArray }) (hi : IntsAre vs ns) (hl : ns.length ≤ sizeLine) (hr : Room k callerA)
    (F : ∀ base : Heap, K.In base → base.Ns mainGlobals mg → FnOk P w K mg base CX k fa fd [x] sp) (hbind : ∀ (s : Shared) (u : Value), BindsTo s fd ⟨[u], []⟩ [(x, u)])
    (hsp : ∀ H : Hp, Only H → SqL K H a (ns.map V.int) → sp [.ref a] H (fun v _ => v = .bl true) fun _ _ _ => False)
    (hCX : ∀ H e s', CX [] H s₁ (fun _ _ _ => False) e s' → False) :
    codeAny (model P w) callerA (.call (.ref fa) ⟨[.ref a], []⟩) (fun r s' => r = .ok (.ret (.bool true)) ∧ OldK s₁.heap s'.heap ∧ s'.os = s₁.os ∧ AllBare s'.gens) s₁ := by
  have rv := vals_ints hi
  have lenV := hi.length
  -- from an abstract heap in which nothing but the script may be tracked
  have core : ∀ H : Hp, Only H → SqL K H a (ns.map V.int) → HOk P w H s₁.heap → (∀ b, H b ≠ none → b = a) → (H a ≠ none → K.lookup a = none) →
      codeAny (model P w) callerA (.call (.ref fa) ⟨[.ref a], []⟩) (fun r s' => r = .ok (.ret (.bool true)) ∧ OldK s₁.heap s'.heap ∧ s'.os = s₁.os ∧ AllBare s'.gens) s₁ := by
    intro H hO hS hok hA hK
    have base_of : ∀ {b : Addr} {o : Obj}, s₁.heap.get? b = some o → H b = none → (hidT s₁.heap H).get? b = some o := fun e n => hidT_get e n
    have noA : ∀ {b : Addr} {o : Obj} {es : Array DictEntry} {ep : Nat}, s₁.heap.get? b = some o → o.data = .dict es ep → H b = none := fun {b o es ep} e d => by
      cases q : H b with
      | none => rfl
      | some u =>
        have e' : b = a := hA b (by rw [q]; simp)
        subst e'
        rw [ha] at e; cases e
        have d' : Data.seq vs.toArray _ = Data.dict es ep := d
        cases d'
    have nsK : ∀ {b : Addr} {m : Str → Option Value}, s₁.heap.Ns b m → (hidT s₁.heap H).Ns b m := fun {b m} ⟨o, es, ep, e, d, r⟩ => ⟨o, es, ep, base_of e (noA e d), d, r⟩
    have hKb : K.In (hidT s₁.heap H) := fun b o e => base_of (KX b o e) (by
      cases q : H b with
      | none => rfl
      | some u =>
        have e' : b = a := hA b (by rw [q]; simp)
        subst e'
        rw [hK (by rw [q]; simp)] at e; cases e)
    have hM : Mod K mg (hidT s₁.heap H) := ⟨hKb, nsK hns, ⟨mb, nsK hb, hbb⟩, let ⟨mc, h1, h2⟩ := hlim; ⟨mc, nsK h1, h2⟩⟩
    have e0 : Env0 P w K mg (hidT s₁.heap H) callerA [] s₁ H := ⟨rfl, hM, fun b o e => of_hidT e, Nat.le_of_eq (hidT_size _ _), trivial, fun b hb => absurd (show b ∈ ([] : List Addr) from hb) (by simp), hok, .of_eq hg⟩
    refine codeAny_mono ((F _ hKb (nsK hns)).run callerA [] s₁ H ⟨[.ref a], []⟩ [.ref a] [.ref a] _ _ hr e0 (hbind s₁ (.ref a)) (.cons rfl .nil) (hsp H hO hS)) fun r s' h => ?_
    cases r with
    | error e => exact (hCX H e s' h).elim
    | ok fl =>
      cases fl with
      | next => exact False.elim h
      | brk => exact False.elim h
      | cont => exact False.elim h
      | ret u =>
        obtain ⟨v, H', os, bare, un, hok', r', q⟩ := h
        have q' : v = .bl true := q
        subst q'
        obtain rfl : u = Value.bool true := r'
        refine ⟨rfl, OldK.of_keep fun b o e => ?_, os, bare⟩
        cases q : H b with
        | none => exact un.keep b o e q (by intro z; exact absurd (show b ∈ ([] : List Addr) from z) (by simp)) (by simp)
        | some u =>
          rcases hO b with z | ⟨ob, xs, z⟩
          · rw [q] at z; cases z
          · have z2 := un.frzs b ob _ z
            obtain ⟨e1, _⟩ := hok b _ z
            obtain ⟨e2, _⟩ := hok' b _ z2
            rw [e] at e1; cases e1
            exact e2
  cases hk : K.lookup a with
  | some o =>
    -- the script is one of the module's own objects
    have e := KX a o hk
    rw [ha] at e
    cases e
    refine core (fun _ => none) (fun _ => .inl rfl) (.inr ⟨_, vs.toArray, _, hk, rfl, rfl, rfl, by rw [List.size_toArray, lenV]; exact hl, by simpa using rv⟩) (fun b u z => by have z' : (none : Option HO) = some u := z; cases z') (fun b z => absurd rfl z) fun z => absurd rfl z
  | none =>
    refine core (fun b => if b = a then some (.frz { cls := .type "list", data := .seq vs.toArray } (.lst (ns.map V.int))) else none) (fun b => ?_) (.inl (.inr ⟨{ cls := .type "list", data := .seq vs.toArray }, if_pos rfl⟩)) (fun b u z => ?_) (fun b z => ?_) fun _ => hk
    · by_cases hb : b = a
      · exact .inr ⟨_, _, if_pos hb⟩
      · exact .inl (if_neg hb)
    · by_cases hb : b = a
      · have z' := (if_pos hb).symm.trans z
        cases z'
        subst hb
        exact ⟨ha, by rw [List.length_map]; exact hl, vs, _, rv, ha⟩
      · have z' := (if_neg hb).symm.trans z
        cases z'
    · by_cases hb : b = a
      · exact hb
      · exact absurd (if_neg hb) z
end L2

namespace L2
open PySem PySem.Spec PyProof.Rows

noncomputable abbrev KOf {K : PySem.W.Frag} {h : Heap} (_ : K.In h) : PySem.W.Frag := K

/-- the goal that k_head leaves (case hc), from the law's promise. F gives the function object fd (K's own) once, then the promise over every base -/
theorem walk_of {l : PySem.W.OpenLaw} {n k : Nat} {q : Program} {loose : List Str} {XP : (Str → Option Value) → Heap → Prop} {YP : World → Heap → Prop} {d : DefRec} {K : Params → PySem.W.Frag} {CX : World → CXT} {sp : World → Sp} {x : Str}
    (hn : l.most = some n) (hn2 : n ≤ sizeLine) (hdf : d.params.defaults = []) (hr : Room k callerA)
    (hY : ∀ (w : World) (h : Heap), YP w h → (K w.params).In h)
    (F : ∀ (w : World) (mg : Str → Option Value) (fa : Addr) (h : Heap), (K w.params).In h → h.Ns mainGlobals mg → mg d.name = some (.ref fa) →
      ∃ fd : FuncData, (∀ (s : Shared) (u : Value), BindsTo s fd ⟨[u], []⟩ [(x, u)]) ∧
        ∀ base : Heap, (K w.params).In base → base.Ns mainGlobals mg → FnOk l.prog w (K w.params) mg base (CX w) k fa fd [x] (sp w))
    (hsp : ∀ (w : World) (H : Hp) (a : Addr) (ns : List Int), ns.length ≤ n → Only H → SqL (K w.params) H a (ns.map V.int) → sp w [.ref a] H (fun v _ => v = .bl true) fun _ _ _ => False)
    (hCX : ∀ (w : World) (H : Hp) (s : Shared) (e : Value) (s' : Shared), CX w [] H s (fun _ _ _ => False) e s' → False) :
    PySem.W.WalkO q loose XP YP l.row.toRowW d [] (fun f vs => PySem.call f vs) := by
  refine Att.attach_call hn hdf fun w s₀ s₁ mg mb fa o pm cd doc a vs ns G Y ho hd hcd hmg hobj hints hlen hg => ?_
  have KX := hY w _ Y
  obtain ⟨fd, hb, hF⟩ := F w mg fa _ KX G.T.g hmg
  exact law_call KX G.T.g G.T.b G.T.builtins G.T.nolimit hg hobj hints (Nat.le_trans hlen hn2) hr hF hb (fun H hO hS => hsp w H a ns hlen hO hS) fun H e s' => hCX w H s₁ e s'
end L2

/- THE LAST THEOREM (shape; LID, My.* are yours):
   My.Adr: a structure of the addresses that your layer names (classes, functions); My.Txt K t: a structure (Prop) of the equations over K;
   My.txt_mk : {K} {implicit addresses ..} (e1 : nsIn K mainGlobals "law" = some (some (.ref f))) (e2 : K.lookup f = some ⟨oc, od, .func (fnOf "law" "law" params body scope dV kV doc pm an cdv ct), sl⟩) (e3 : codeIn K cdv "law" = true) .. : ∃ t, My.Txt K t

set_option maxRecDepth 100000 in
set_option maxHeartbeats 0 in
theorem PySem.Challenge.cw_LID_holds : PySem.Challenge.rw_LID.Holds := by
  w_on; o_law; k_head; (case hw => w_witness2)
  k_fill
  refine L2.walk_of (l := PySem.Challenge.rw_LID) (n := 63) (k := 40) (x := "script") (CX := fun w => ..) (sp := fun _ => My.sp_law) rfl (by decide) rfl ⟨rfl, by decide, by decide⟩ (fun w h Y => PySem.W.kIn_of Y) ?F ?S ?C
  case F =>
    intro w mg fa h KX G hmg
    have T : ∃ t, My.Txt (L2.KOf KX) t := by
      dsimp only [L2.KOf]                          -- K must stand as «<heap const> w.params» for k_is
      refine' My.txt_mk ?e1 ?e2 ?e3 ..
      (case e1 => PySem.W.k_is)                    -- in the order: a name -> its address -> its object -> its parts
      (case e2 => PySem.W.k_is)
      ..
    obtain ⟨t, T⟩ := T
    have e0 := hmg.symm.trans (PySem.W.mg_of KX G T.law)
    cases e0                                       -- fa is the law's own address
    exact ⟨_, fun s u => .of_eq rfl, fun base kb nb => My.law_fn T kb nb⟩     -- if «.of_eq rfl» comes too early: refine' ⟨_, ?b, fun base kb nb => My.law_fn T kb nb⟩; exact fun s u => .of_eq rfl
  case S => exact fun w H a ns hl hO hS => ..
  case C => exact ..
(the tactic k_is has no namespace: write k_is) -/

/-! SHORT WORDS over the layer: a def of the text, its body, what a loop and a test want. -/
namespace L2
open PySem PySem.Spec PyProof.Rows

/-! ### the text by places -/
/-- the j-th statement of a class's body -/
noncomputable def inClass (s : Stmt) (j : Nat) : Stmt := match s with
  | .ClassDef _ _ _ body _ _ _ _ _ _ _ => body.getD j (.Pass ⟨0, 0, 0, 0⟩)
  | _ => .Pass ⟨0, 0, 0, 0⟩
noncomputable def defArgs (s : Stmt) : Arguments := match s with
  | .FunctionDef _ a _ _ _ _ _ _ _ _ => a
  | _ => { posonlyargs := [], args := [], vararg := none, kwonlyargs := [], kw_defaults := [], kwarg := none, defaults := [] }
noncomputable def defBody (s : Stmt) : List Stmt := match s with
  | .FunctionDef _ _ b _ _ _ _ _ _ _ => b
  | _ => []
noncomputable def defScope (s : Stmt) : Scope := match s with
  | .FunctionDef _ _ _ _ _ _ sc _ _ _ => sc
  | _ => { kind := .function, names := [], isGenerator := false, isCoroutine := false }

/-! ### no exception leaves a def -/
noncomputable abbrev CX0 : CXT := fun _ _ _ _ _ _ => False
noncomputable abbrev E0 : XK := fun _ _ _ => False
theorem pass0 {X : Cx} : Passes CX0 X E0 := fun _ _ _ _ _ _ _ h => h.elim

/-! ### a def (or method) of the text as it stands behind the top -/
structure Fun (K : PySem.W.Frag) (x qual : Str) (st : Stmt) (f : Addr) (fd : FuncData) : Prop where
  ex : ∃ (oc : Value) (od : Option Addr) (kV doc pm : Value) (an : Option Addr) (cdv ct : Value) (osl : Array (Option Value)),
    fd = PySem.W.fnOf x qual (defArgs st) (defBody st) (defScope st) .none kV doc pm an cdv ct ∧ K.lookup f = some ⟨oc, od, .func fd, osl⟩ ∧ PySem.W.codeIn K cdv qual = true
  kp : PySem.W.keepIn K (.ref f) = true
section
variable {P : Program} {w : World} {K : PySem.W.Frag} {mg : Str → Option Value} {base : Heap}
/-- THE RULE for a def: its body as a term of rules, and the reading of that term -/
theorem Fun.ok {x qual : Str} {st : Stmt} {f : Addr} {fd : FuncData} {N ps : List Str} {k : Nat} {sp : Sp} (F : Fun K x qual st f fd) (S : FnScope N ps (defScope st)) (len : ∀ vs H Q E, sp vs H Q E → vs.length = ps.length)
    (hbody : ∀ (cdv : Value) (A : Around) (outer : List Env) (s : Shared) (H : Hp) (vs : List V) (Q : VK) (E : XK), Room k (A.deeper (envOfC qual (defScope st) s.heap.objs.size f cdv)) → sp vs H Q E →
      ∃ t, PSs (cxOf CX0 P w K mg base N qual (defScope st) f cdv A outer s H E).nox (defBody st) t ∧ t { nx := fun _ H' => Q .non H', rt := Q } (start N vs) H) : FnOk P w K mg base CX0 (k + 1) f fd ps sp := by
  obtain ⟨oc, od, kV, doc, pm, an, cdv, ct, osl, rfl, lk, hcd⟩ := F.ex
  refine fn_of lk hcd S len fun A outer s H vs Q E hr hsp => ?_
  obtain ⟨t, h, q⟩ := hbody cdv A outer s H vs Q E hr hsp
  exact ⟨t, h.nox, q⟩
/-- how its arguments bind (no defaults): h is «fun _ _ _ _ _ _ us hl => match us, hl with | [_, _], _ => rfl», one _ a parameter -/
theorem Fun.binds {x qual : Str} {st : Stmt} {f : Addr} {fd : FuncData} {ps : List Str} (F : Fun K x qual st f fd)
    (h : ∀ (kV doc pm : Value) (an : Option Addr) (cdv ct : Value) (us : List Value), us.length = ps.length → bindArgs (PySem.W.fnOf x qual (defArgs st) (defBody st) (defScope st) .none kV doc pm an cdv ct) ⟨us, []⟩ = pure (ps.zip us)) : Binds K fd ps [] := by
  obtain ⟨oc, od, kV, doc, pm, an, cdv, ct, osl, rfl, lk, hcd⟩ := F.ex
  exact .all (h kV doc pm an cdv ct)
theorem fun_mk {x qual : Str} {st : Stmt} {f : Addr} {oc : Value} {od an : Option Addr} {osl : Array (Option Value)} {kV doc pm cdv ct : Value} (l : K.lookup f = some ⟨oc, od, .func (PySem.W.fnOf x qual (defArgs st) (defBody st) (defScope st) .none kV doc pm an cdv ct), osl⟩)
    (c : PySem.W.codeIn K cdv qual = true) (k : PySem.W.keepIn K (.ref f) = true) : Fun K x qual st f (PySem.W.fnOf x qual (defArgs st) (defBody st) (defScope st) .none kV doc pm an cdv ct) := ⟨⟨oc, od, kV, doc, pm, an, cdv, ct, osl, rfl, l, c⟩, k⟩
end
theorem small1000 {n : Nat} (h : n ≤ 1000) : n < sizeLine := Nat.lt_of_le_of_lt h (by decide)

/-! ### expressions in short: the name that stands in the i-th slot -/
section
variable {X : Cx}
theorem pv (i : Nat) {x : Str} {pos : Pos} (hN : X.N[i]? = some x := by rfl) (hv : Vis X.env.scope x := by first | exact Or.inl rfl | exact Or.inr (Or.inl rfl) | exact Or.inr (Or.inr rfl)) (hd : (x == ("__debug__" : Str)) = false := by decide)
    (hcd : (x == ("__classdict__" : Str)) = false := by decide) : PE X (.Name x pos) (tVar i) := pe_var hN hv hd hcd
end

/-! ### tests -/
theorem iteF {A B : Prop} (h : B) : if false = true then A else B := by
  rw [if_neg Bool.false_ne_true]
  exact h
theorem iteT {A B : Prop} (h : A) : if true = true then A else B := by
  rw [if_pos rfl]
  exact h
theorem ite2 {c A B : Prop} [Decidable c] (h1 : c → A) (h2 : ¬ c → B) : if c then A else B := by
  by_cases h : c
  · rw [if_pos h]
    exact h1 h
  · rw [if_neg h]
    exact h2 h
/-! ### heaps -/
/-- all that was tracked is as it was -/
noncomputable def Same (H H' : Hp) : Prop := ∀ b o, H b = some o → H' b = some o
theorem Same.refl (H : Hp) : Same H H := fun _ _ h => h
theorem Same.trans {H H1 H2 : Hp} (a : Same H H1) (b : Same H1 H2) : Same H H2 := fun c o h => b c o (a c o h)
theorem Same.free {H H' : Hp} (e : Same H H') {l : Addr} (h : H' l = Option.none) : H l = Option.none := by
  cases q : H l with
  | none => rfl
  | some o =>
    rw [e l o q] at h
    cases h
theorem Same.seq {K : PySem.W.Frag} {H H' : Hp} {a : Addr} {xs : List V} (e : Same H H') (h : SqL K H a xs) : SqL K H' a xs := by
  rcases h with (h | ⟨o, h⟩) | h
  · exact .inl (.inl (e _ _ h))
  · exact .inl (.inr ⟨o, e _ _ h⟩)
  · exact .inr h

/-! ### a dict's pairs: keys that differ -/
section
variable {κ : Type} [DecidableEq κ]
end
end L2
set_option Elab.async false
set_option linter.all false
set_option maxRecDepth 100000
set_option maxHeartbeats 4000000
namespace CH
open PySem
/-! ### the mathematics of fractions: a fraction is a Rat -/
noncomputable abbrev bits (x : Int) : Nat := PySem.Builtin.Int.intBits x
theorem bits_iff {m : Nat} {x : Int} : bits x ≤ m ↔ x.natAbs < 2 ^ m := intBits_le_iff
theorem bits_mono {x : Int} {m n : Nat} (h : bits x ≤ m) (k : m ≤ n) : bits x ≤ n := Nat.le_trans h k
theorem bits_of_abs {x y : Int} {m : Nat} (h : x.natAbs ≤ y.natAbs) (hy : bits y ≤ m) : bits x ≤ m := bits_iff.mpr (Nat.lt_of_le_of_lt h (bits_iff.mp hy))
theorem bits_of_lt {x : Int} {m : Nat} (h1 : -(2 : Int) ^ m < x) (h2 : x < (2 : Int) ^ m) : bits x ≤ m := by
  refine bits_iff.mpr ?_
  have e : ((2 ^ m : Nat) : Int) = (2 : Int) ^ m := by simp
  omega
theorem log2_of_bits {x : Int} {m : Nat} (hm : 0 < m) (h : bits x ≤ m) : x.natAbs.log2 < m := by
  have h1 := bits_iff.mp h
  rcases Nat.eq_zero_or_pos x.natAbs with h0 | hp
  · rw [h0]; simpa using hm
  · exact (Nat.log2_lt (Nat.ne_of_gt hp)).mpr h1
theorem gcd_fmod (a b : Int) : Int.gcd b (a.fmod b) = Int.gcd a b := by
  have h := Int.fmod_def a b
  rw [h, Int.gcd_comm]
  have : a - b * a.fdiv b = a + b * (-(a.fdiv b)) := by grind
  rw [this, Int.gcd_add_mul_left_left]
theorem fmod_lt {a b : Int} (h : b ≠ 0) : (a.fmod b).natAbs < b.natAbs := by
  rcases Int.lt_or_gt_of_ne h with hb | hb
  · have h0 : (0 : Int) < -b := by (clear h; omega)
    have h1 := Int.fmod_nonneg_of_pos (-a) h0
    have h2 := Int.fmod_lt_of_pos (-a) h0
    rw [Int.neg_fmod_neg] at h1 h2
    (clear h0 h; omega)
  · have h1 := Int.fmod_nonneg_of_pos a hb
    have h2 := Int.fmod_lt_of_pos a hb
    (clear h; omega)
/-- the divisor with the bottom's sign -/
noncomputable def sgcd (t b : Int) : Int := if b < 0 then -((Int.gcd t b : Nat) : Int) else ((Int.gcd t b : Nat) : Int)
theorem sgcd_ne {t b : Int} (h : b ≠ 0) : sgcd t b ≠ 0 := by
  have : Int.gcd t b ≠ 0 := fun e => h (Int.gcd_eq_zero_iff.mp e).2
  unfold sgcd; split <;> (clear h; omega)
theorem sgcd_dvd_l (t b : Int) : sgcd t b ∣ t := by
  unfold sgcd; split
  · exact Int.neg_dvd.mpr (Int.gcd_dvd_left ..)
  · exact Int.gcd_dvd_left ..
theorem sgcd_dvd_r (t b : Int) : sgcd t b ∣ b := by
  unfold sgcd; split
  · exact Int.neg_dvd.mpr (Int.gcd_dvd_right ..)
  · exact Int.gcd_dvd_right ..
theorem fdiv_num {t b : Int} (h : b ≠ 0) : t.fdiv (sgcd t b) = (Rat.divInt t b).num := by
  rw [Int.fdiv_eq_ediv_of_dvd (sgcd_dvd_l t b), Rat.num_divInt]
  unfold sgcd
  split
  · rename_i hb
    rw [Int.sign_eq_neg_one_of_neg hb, Int.gcd_comm b t, Int.ediv_neg]
    have : (-1 : Int) * t = -t := by (clear hb h; omega)
    rw [this, Int.neg_ediv_of_dvd (Int.gcd_dvd_left ..)]
  · have hb : 0 < b := by omega
    rw [Int.sign_eq_one_of_pos hb, Int.gcd_comm b t, Int.one_mul]
theorem fdiv_den {t b : Int} (h : b ≠ 0) : b.fdiv (sgcd t b) = ((Rat.divInt t b).den : Int) := by
  rw [Int.fdiv_eq_ediv_of_dvd (sgcd_dvd_r t b), Rat.den_divInt, if_neg h, Int.gcd_comm b t, Int.natCast_ediv]
  unfold sgcd
  split
  · rename_i hb
    rw [Int.ediv_neg, ← Int.neg_ediv_of_dvd (Int.gcd_dvd_right ..)]
    congr 1
    (clear h; omega)
  · congr 1
    (clear h; omega)
/-- both parts below 2 ^ n -/
structure Sm (n : Nat) (q : Rat) : Prop where
  num : bits q.num ≤ n
  den : bits (q.den : Int) ≤ n
theorem Sm.mono {n m : Nat} {q : Rat} (h : Sm n q) (k : n ≤ m) : Sm m q := ⟨bits_mono h.num k, bits_mono h.den k⟩
theorem natAbs_fdiv_dvd {t s : Int} (h : s ∣ t) (hs : s ≠ 0) : (t.fdiv s).natAbs ≤ t.natAbs := by
  rw [Int.fdiv_eq_ediv_of_dvd h]
  exact Int.natAbs_ediv_le_natAbs t s
theorem Sm.divInt {t b : Int} {n : Nat} (hb : b ≠ 0) (h1 : bits t ≤ n) (h2 : bits b ≤ n) : Sm n (Rat.divInt t b) := by
  refine ⟨?_, ?_⟩
  · rw [← fdiv_num hb]; exact bits_of_abs (natAbs_fdiv_dvd (sgcd_dvd_l t b) (sgcd_ne hb)) h1
  · rw [← fdiv_den hb]; exact bits_of_abs (natAbs_fdiv_dvd (sgcd_dvd_r t b) (sgcd_ne hb)) h2
theorem den_ne (q : Rat) : ((q.den : Nat) : Int) ≠ 0 := by have := q.den_nz; omega
theorem den_pos (q : Rat) : (0 : Int) < ((q.den : Nat) : Int) := by have := q.den_nz; omega
theorem self_div (q : Rat) : Rat.divInt q.num q.den = q := Rat.num_divInt_den q
theorem add_div (a b : Rat) : Rat.divInt (a.num * b.den + b.num * a.den) (a.den * b.den) = a + b := by
  rw [← Rat.divInt_add_divInt _ _ (den_ne a) (den_ne b), self_div, self_div]
theorem mul_div (a b : Rat) : Rat.divInt (a.num * b.num) (a.den * b.den) = a * b := by
  rw [← Rat.divInt_mul_divInt, self_div, self_div]
theorem mul_ne {a b : Int} (h1 : a ≠ 0) (h2 : b ≠ 0) : a * b ≠ 0 := Int.mul_ne_zero h1 h2
theorem bits_mul {x y : Int} {m n : Nat} (hx : bits x ≤ m) (hy : bits y ≤ n) : bits (x * y) ≤ m + n := intBits_mul_le hx hy
theorem bits_add {x y : Int} {m n : Nat} (hx : bits x ≤ m) (hy : bits y ≤ n) : bits (x + y) ≤ max m n + 1 := intBits_add_le hx hy
theorem mulOk {a b : Int} {m n : Nat} (ha : bits a ≤ m) (hb : bits b ≤ n) (h : m + n ≤ 134217728) : IntMulOk a b := IntMulOk.of_le ha hb h
theorem Sm.add {m n : Nat} {a b : Rat} (ha : Sm m a) (hb : Sm n b) : Sm (m + n + 1) (a + b) := by
  rw [← add_div]
  refine Sm.divInt (mul_ne (den_ne a) (den_ne b)) ?_ (bits_mono (bits_mul ha.den hb.den) (by omega))
  exact bits_mono (bits_add (bits_mul ha.num hb.den) (bits_mul hb.num ha.den)) (by omega)
theorem Sm.mul {m n : Nat} {a b : Rat} (ha : Sm m a) (hb : Sm n b) : Sm (m + n) (a * b) := by
  rw [← mul_div]
  exact Sm.divInt (mul_ne (den_ne a) (den_ne b)) (bits_mul ha.num hb.num) (bits_mul ha.den hb.den)
theorem bits_sgcd {t b : Int} {n : Nat} (hb : b ≠ 0) (h : bits b ≤ n) : bits (sgcd t b) ≤ n := by
  refine bits_of_abs (y := b) ?_ h
  obtain ⟨c, e⟩ := sgcd_dvd_r t b
  have hc : c ≠ 0 := fun z => by rw [z, Int.mul_zero] at e; exact hb e
  have h1 : b.natAbs = (sgcd t b).natAbs * c.natAbs := by rw [← Int.natAbs_mul, ← e]
  rw [h1]
  exact Nat.le_mul_of_pos_right _ (by (clear h1 e h hb; omega))
end CH
set_option Elab.async false
set_option linter.all false
set_option maxRecDepth 100000
set_option maxHeartbeats 4000000
namespace L2
open PySem PySem.Spec PyProof.Rows
open CH (bits)
section
variable {X : Cx}
theorem op_mulB : OpR X (binaryOp .Mult) (rI IntMulOk fun i j => .int (i * j)) := opI fun _ _ _ _ _ _ _ hc q => mul_int q hc
noncomputable def CDivB (_ j : Int) : Prop := j ≠ 0 ∧ bits j ≤ 9000
theorem op_fdivB : OpR X (binaryOp .FloorDiv) (rI CDivB fun i j => .int (i.fdiv j)) :=
  opI fun _ _ _ _ _ _ _ hc q => floordiv_int hc.1 q (.inl (PyProof.noPylong_of_log2 (CH.log2_of_bits (by decide) hc.2)))
/-- // by a positive divisor -/
noncomputable def CDivP (_ j : Int) : Prop := 0 < j ∧ bits j ≤ 9000
theorem op_fdivP : OpR X (binaryOp .FloorDiv) (rI CDivP fun i j => .int (i / j)) := opI fun i j _ _ _ _ _ hc q => by
  have h1 : (0 : Int) < j := hc.1
  exact floordiv_int (by omega) (by rw [Int.fdiv_eq_ediv_of_nonneg i (by omega)]; exact q) (.inl (PyProof.noPylong_of_log2 (CH.log2_of_bits (by decide) hc.2)))
noncomputable def CPowB (i j : Int) : Prop := 0 ≤ j ∧ (bits i : Int) * j ≤ 2 ^ 27
theorem op_powB : OpR X (binaryOp .Pow) (rI CPowB fun i j => .int (i ^ j.toNat)) := opI fun _ _ _ _ _ _ _ hc q => pow_int hc.1 hc.2 q
/-- isinstance(x, T), T a built-in type: by the type of x -/
noncomputable def TyV (K : PySem.W.Frag) (H : Hp) (x : V) (t : String) : Prop :=
  match x with
  | .non => t = "NoneType"
  | .bl _ => t = "bool"
  | .int _ => t = "int"
  | .str _ => t = "str"
  | .ref a => (t = "tuple" ∧ ∃ xs, SqT K H a xs) ∨ (t = "list" ∧ ∃ xs, SqL K H a xs) ∨ (t = "dict" ∧ ∃ kvs, H a = some (.dK kvs))
  | _ => False
noncomputable def rIsi (K : PySem.W.Frag) : List V → Hp → VK → Prop := fun xs H Q => ∃ x n t b, xs = [x, .ty n] ∧ TyV K H x t ∧ PySem.W.kitOne K (.type t) (.type n) = some b ∧ Q (.bl b) H
theorem call_isi : CallR X (.builtin "isinstance") (rIsi X.K) := by
  intro pins s σ H xs us Q I r h
  obtain ⟨x, n, t, b, rfl, ty, e, q⟩ := h
  obtain ⟨u, w', rfl, rx, ry⟩ := vals2 r
  cases (show w' = Value.type n from ry)
  have fin : ∀ tk, EP X pins σ Q (.bool b) { s with toks := tk } := fun tk => ⟨.bl b, H, I.tok _, rfl, q⟩
  cases x with
  | non => cases (show t = "NoneType" from ty); exact isinst_ok I rx .non e fin
  | bl y => cases (show t = "bool" from ty); exact isinst_ok I rx (.bl y) e fin
  | int y => cases (show t = "int" from ty); exact isinst_ok I rx (.int y) e fin
  | str y => cases (show t = "str" from ty); exact isinst_ok I rx (.str y) e fin
  | ref a =>
    cases (show u = Value.ref a from rx)
    have ty' : (t = "tuple" ∧ ∃ xs, SqT X.K H a xs) ∨ (t = "list" ∧ ∃ xs, SqL X.K H a xs) ∨ (t = "dict" ∧ ∃ kvs, H a = some (.dK kvs)) := ty
    rcases ty' with ⟨rfl, xs, hx⟩ | ⟨rfl, xs, hx⟩ | ⟨rfl, kvs, hx⟩
    · obtain ⟨its, _, ⟨o, h1, h2, _⟩, _⟩ := I.tuple hx
      exact PySem.W.kia_one PySem.W.kitx_tuple I.kIn ⟨o, h1, h2⟩ e (fun z => nomatch z) fin
    · obtain ⟨its, _, ⟨o, n', h1, h2, _⟩, _⟩ := I.list hx
      exact PySem.W.kia_one PySem.W.kitx_list I.kIn ⟨o, h1, h2⟩ e (fun z => nomatch z) fin
    · exact isinst_ok (x := .ref a) I rfl (.dK hx) e fin
  | _ => exact (show False from ty).elim
/-- a built-in type's name as a value -/
theorem pe_ty {x : Str} {n : String} {pos : Pos} (hm : X.mg x = none) (hv : bootBuiltins x = some (.type n)) (hg : Gl X x := by rfl) (hn : x ≠ "__name__" := by decide) (hd : (x == ("__debug__" : Str)) = false := by decide) : PE X (.Name x pos) (tC (.ty n)) :=
  pe_bltn hg hm hv rfl hn hd
end
/-! ### a cut between two statements: what holds there is said -/
noncomputable def tMid (t u : TS) : TS := fun D σ H => ∃ R : St → Hp → Prop, t { D with nx := R } σ H ∧ ∀ σ' H', R σ' H' → u D σ' H'
theorem pss_mid {X : Cx} {st : Stmt} {sts : List Stmt} {t u : TS} (h1 : PS X st t) (h2 : PSs X sts u) : PSs X (st :: sts) (tMid t u) := by
  intro pins s σ H D I h
  obtain ⟨R, h, k⟩ := h
  refine wpAny_execs_cons (thn (h1 pins s σ H _ I h) fun f s1 q => ?_)
  cases f with
  | next =>
    obtain ⟨σ', H', I', q⟩ := q
    exact h2 pins s1 σ' H' D I' (k σ' H' q)
  | ret v => exact q
  | brk => exact q
  | cont => exact q
/-! ### a def of the text under its name -/
noncomputable def Dfn (P : Program) (w : World) (K : PySem.W.Frag) (mg : Str → Option Value) (base : Heap) (k : Nat) (x : Str) (ps : List Str) (sp : Sp) : Prop :=
  ∃ f fd, mg x = some (.ref f) ∧ PySem.W.keepIn K (.ref f) = true ∧ Binds K fd ps [] ∧ FnOk P w K mg base CX0 k f fd ps sp
structure TxtD (K : PySem.W.Frag) (mg : Str → Option Value) (x : Str) (st : Stmt) (ps : List Str) : Prop where
  ex : ∃ f fd, Fun K x x st f fd ∧ mg x = some (.ref f) ∧ Binds K fd ps []
section
variable {P : Program} {w : World} {K : PySem.W.Frag} {mg : Str → Option Value} {base : Heap}
theorem TxtD.ok {x : Str} {st : Stmt} {N ps : List Str} {k : Nat} {sp : Sp} (T : TxtD K mg x st ps) (S : FnScope N ps (defScope st)) (len : ∀ vs H Q E, sp vs H Q E → vs.length = ps.length)
    (hbody : ∀ (f : Addr) (cdv : Value) (A : Around) (outer : List Env) (s : Shared) (H : Hp) (vs : List V) (Q : VK) (E : XK), Room k (A.deeper (envOfC x (defScope st) s.heap.objs.size f cdv)) → sp vs H Q E →
      ∃ t, PSs (cxOf CX0 P w K mg base N x (defScope st) f cdv A outer s H E).nox (defBody st) t ∧ t { nx := fun _ H' => Q .non H', rt := Q } (start N vs) H) : Dfn P w K mg base (k + 1) x ps sp := by
  obtain ⟨f, fd, F, hm, hb⟩ := T.ex
  exact ⟨f, fd, hm, F.kp, hb, F.ok S len (hbody f)⟩
theorem Dfn.mono {x : Str} {ps : List Str} {j k : Nat} {sp : Sp} (D : Dfn P w K mg base j x ps sp) (h : j ≤ k) : Dfn P w K mg base k x ps sp := by
  obtain ⟨f, fd, a, b, c, d⟩ := D
  exact ⟨f, fd, a, b, c, d.mono h⟩
theorem Dfn.imp {x : Str} {ps : List Str} {k : Nat} {sp sp' : Sp} (D : Dfn P w K mg base k x ps sp) (h : ∀ vs H Q E, sp' vs H Q E → sp vs H Q E) : Dfn P w K mg base k x ps sp' := by
  obtain ⟨f, fd, a, b, c, d⟩ := D
  exact ⟨f, fd, a, b, c, d.imp h⟩
end
section
variable {X : Cx} {x : Str} {p pos : Pos} {e : Expr} {es : List Expr} {t : TA} {ps : List Str} {sp : Sp} {k k' : Nat}
theorem pe_callD (D : Dfn X.prog X.w X.K X.mg X.base k x ps sp) (hr : Room k' X.A) (ha : PA X (e :: es) t) (hk : k ≤ k' := by decide) (hg : Gl X x := by rfl) (hdb : (x == ("__debug__" : Str)) = false := by decide)
    (he : starEach (e :: es) X.env = (false, eval e X.env) :: starEach es X.env := by rfl) (hpl : (backTo pos (starEach es X.env)).any (·.1) = false := by rfl) :
    PE X (.Call (.Name x p) (e :: es) [] pos) (tCall sp [] E0 t) := by
  obtain ⟨f, fd, a, b, c, d⟩ := D
  exact pe_call d (hr.mono hk) hg a b c .nil pass0 ha hdb he hpl
end
/-- the top's facts of a def -/
theorem txtD_mk {K : PySem.W.Frag} {h : Heap} {mg : Str → Option Value} {x : Str} {st : Stmt} {ps : List Str} {f : Addr} {oc : Value} {od an : Option Addr} {osl : Array (Option Value)} {kV doc pm cdv ct : Value} (X : K.In h) (G : h.Ns mainGlobals mg)
    (a : PySem.W.nsIn K mainGlobals x = some (some (.ref f))) (l : K.lookup f = some ⟨oc, od, .func (PySem.W.fnOf x x (defArgs st) (defBody st) (defScope st) .none kV doc pm an cdv ct), osl⟩)
    (c : PySem.W.codeIn K cdv x = true) (k : PySem.W.keepIn K (.ref f) = true)
    (hb : ∀ (kV doc pm : Value) (an : Option Addr) (cdv ct : Value) (us : List Value), us.length = ps.length → bindArgs (PySem.W.fnOf x x (defArgs st) (defBody st) (defScope st) .none kV doc pm an cdv ct) ⟨us, []⟩ = pure (ps.zip us)) : TxtD K mg x st ps := by
  have F := fun_mk (st := st) l c k
  exact ⟨f, _, F, PySem.W.mg_of X G a, F.binds hb⟩
theorem Same.tup {K : PySem.W.Frag} {H H' : Hp} {a : Addr} {xs : List V} (e : Same H H') (h : SqT K H a xs) : SqT K H' a xs := by
  rcases h with (h | ⟨o, h⟩) | h
  · exact .inl (.inl (e _ _ h))
  · exact .inl (.inr ⟨o, e _ _ h⟩)
  · exact .inr h
theorem same_new {H : Hp} {p : Addr} (h : H p = none) (o : HO) : Same H (upd H p o) := fun b u q => by rw [upd_ne (ne_of_none q h)]; exact q
theorem small {n : Nat} (h : n ≤ 1000) : n ≤ sizeLine := Nat.le_of_lt (small1000 h)
theorem sqT_new {K : PySem.W.Frag} {H : Hp} {p : Addr} {xs : List V} : SqT K (upd H p (.tup xs)) p xs := .inl (.inl upd_same)
theorem sqL_new {K : PySem.W.Frag} {H : Hp} {p : Addr} {xs : List V} : SqL K (upd H p (.lst xs)) p xs := .inl (.inl upd_same)
end L2
set_option Elab.async false
set_option linter.all false
set_option maxRecDepth 100000
set_option maxHeartbeats 4000000
namespace L2
open PySem PySem.Spec PyProof.Rows
/-! ### exceptions of the text's own classes: raised, passed on, caught -/
theorem ObjOk.ex {P : Program} {w : World} {H : Hp} {h : Heap} {a : Addr} {o : HO} (x : ObjOk P w H h a o) : ∃ u, h.get? a = some u := by
  cases o with
  | lst xs => obtain ⟨_, _, _, _, e⟩ := x; exact ⟨_, e⟩
  | tup xs => obtain ⟨_, _, _, p⟩ := x; obtain ⟨o, e, _⟩ := p; exact ⟨_, e⟩
  | dK kvs => obtain ⟨_, _, _, _, o, _, _, e, _⟩ := x; exact ⟨_, e⟩
  | dT kvs => obtain ⟨_, _, _, _, o, _, _, e, _⟩ := x; exact ⟨_, e⟩
  | set S n => obtain ⟨o, _, _, _, e, _⟩ := x; exact ⟨_, e⟩
  | ins C dx fs => obtain ⟨_, _, _, e, _⟩ := x; exact ⟨_, e⟩
  | own y => exact x
  | xd fs => obtain ⟨_, ⟨_, _, _, e, _⟩, _⟩ := x; exact ⟨_, e⟩
  | rng lo hi => obtain ⟨_, _, _, e⟩ := x; exact ⟨_, e⟩
  | frz ob u => obtain ⟨e, _⟩ := x; exact ⟨_, e⟩
  | tbl ps => exact ⟨_, x⟩
  | met f y => exact ⟨_, x⟩
  | ext φ => obtain ⟨_, e, _⟩ := x; exact e
/-- an exception of class C flies past the frames of l: all that was there stays in B -/
def Fly (l : List Env) (H' : Hp) (h h' : Heap) (e C : Addr) : Prop :=
  ∃ B t, Heap.FlyingW B l e (.ref C) (.ref t) h' ∧ ∀ b o, h'.get? b = some o → (H' b ≠ none ∨ ∃ u, h.get? b = some u) → b ∉ frs l → B.get? b = some o
def CXE (P : Program) (w : World) : CXT := fun l H s E e s' =>
  ∃ ea C H', e = .ref ea ∧ s'.os = s.os ∧ AllBare s'.gens ∧ Un (frs l) [] H H' s.heap s'.heap ∧ HOk P w H' s'.heap ∧ Fly l H' s.heap s'.heap ea C ∧ E (.ref C) none H'
theorem fly_on {P : Program} {w : World} {l : List Env} {H H' : Hp} {h h1 h2 B : Heap} (un : Un (frs l) [] H H' h h1) (hok : HOk P w H' h1) (ff : ∀ b ∈ frs l, H' b = none)
    (fr : ∀ b ∈ frs l, ∀ o, h1.get? b = some o → ∀ vs, o.data ≠ .fields vs) (kp : ∀ b o, h1.get? b = some o → (H' b ≠ none ∨ ∃ u, h.get? b = some u) → b ∉ frs l → B.get? b = some o)
    (st : B.StaysIn h2) (up : h1.UpToSlots h2) :
    Un (frs l) [] H H' h h2 ∧ HOk P w H' h2 ∧ ∀ b o, h2.get? b = some o → (H' b ≠ none ∨ ∃ u, h.get? b = some u) → b ∉ frs l → B.get? b = some o := by
  have go : ∀ b o, h1.get? b = some o → (H' b ≠ none ∨ ∃ u, h.get? b = some u) → b ∉ frs l → h2.get? b = some o := fun b o e k n => st b o (kp b o e k n)
  refine ⟨⟨fun b o e n hb hx => go b o (un.keep b o e n hb hx) (.inr ⟨o, e⟩) hb, fun b o e n hb hx => ?_, un.free, fun b o e hx => ?_, un.tups, un.frzs, un.tbls⟩, fun a o e => ?_, fun b o e k n => ?_⟩
  · obtain ⟨sl, e1⟩ := un.slot b o e n hb hx
    obtain ⟨sl', e2⟩ := up b _ e1 (fr b hb _ e1)
    exact ⟨sl', e2⟩
  · obtain ⟨o', e1⟩ := un.there b o e hx
    by_cases hb : b ∈ frs l
    · obtain ⟨sl, e2⟩ := up b _ e1 (fr b hb _ e1)
      exact ⟨_, e2⟩
    · exact ⟨o', go b o' e1 (.inr ⟨o, e⟩) hb⟩
  · have nn : ∀ b, (b = a ∨ H' b = some (.own a)) → H' b ≠ none := fun b hb z => by
      rcases hb with rfl | hb
      · rw [e] at z; cases z
      · rw [hb] at z; cases z
    exact (hok a o e).stay (fun b u hb q => go b u q (.inl (nn b hb)) fun hf => nn b hb (ff b hf)) (fun _ q => q) fun _ _ q => q
  · obtain ⟨u, e1⟩ : ∃ u, h1.get? b = some u := by
      rcases k with k | ⟨u, k⟩
      · cases q : H' b with
        | none => exact absurd q k
        | some z => exact (hok b z q).ex
      · exact un.there b u k (by simp)
    have e2 := kp b u e1 k n
    have e3 := st b u e2
    rw [e] at e3
    cases e3
    exact e2
theorem fly_track {P : Program} {w : World} {l : List Env} {H H' : Hp} {h h2 : Heap} {ea : Addr} {φ : Heap → Prop} (un : Un (frs l) [] H H' h h2) (hok : HOk P w H' h2) (hn : H' ea = none) (h0 : h.get? ea = none)
    (hp : φ h2) (hx : ∃ o, h2.get? ea = some o) (hs : ∀ g1 g2 : Heap, φ g1 → (∀ o, g1.get? ea = some o → g2.get? ea = some o) → φ g2) :
    Un (frs l) [] H (upd H' ea (.ext φ)) h h2 ∧ HOk P w (upd H' ea (.ext φ)) h2 := by
  refine ⟨⟨un.keep, un.slot, fun b o e n hx => ?_, un.there, fun b xs q => ?_, fun b o u q => ?_, fun b ps q => ?_⟩, fun a o e => ?_⟩
  · rw [upd_ne (fun z => by subst z; rw [h0] at e; cases e)]; exact un.free b o e n hx
  · have q' := un.tups b xs q
    rw [upd_ne (ne_of_none q' hn)]; exact q'
  · have q' := un.frzs b o u q
    rw [upd_ne (ne_of_none q' hn)]; exact q'
  · obtain ⟨m, q'⟩ := un.tbls b ps q
    exact ⟨m, by rw [upd_ne (ne_of_none q' hn)]; exact q'⟩
  · by_cases ha : a = ea
    · subst ha
      rw [upd_same] at e
      cases e
      exact ⟨hp, hx, hs⟩
    · rw [upd_ne ha] at e
      exact (hok a o e).stay (fun _ _ _ q => q) (fun b q => by rw [upd_ne (ne_of_none q hn)]; exact q) fun b xs q => by rw [upd_ne (ne_of_none q hn)]; exact q
/-- the exception's own address is new -/
theorem fly_new {l : List Env} {H' : Hp} {h h' B : Heap} {e C t : Addr} (fl : Heap.FlyingW B l e (.ref C) (.ref t) h') (kp : ∀ b o, h'.get? b = some o → (H' b ≠ none ∨ ∃ u, h.get? b = some u) → b ∉ frs l → B.get? b = some o) :
    H' e = none ∧ h.get? e = none := by
  obtain ⟨oe, ws, ho, _, hd, _⟩ := fl.first
  have nf : e ∉ frs l := fun hm => by
    obtain ⟨_, o, ho', hnf⟩ := fl.2.2.1.mem hm
    rw [ho] at ho'; cases ho'
    exact hnf ws hd
  have no : ¬ (H' e ≠ none ∨ ∃ u, h.get? e = some u) := fun k => by
    have := kp e oe ho k nf
    rw [fl.2.1] at this; cases this
  refine ⟨Classical.byContradiction fun z => no (.inl z), ?_⟩
  cases q : h.get? e with
  | none => rfl
  | some u => exact absurd (.inr ⟨u, q⟩) no
theorem stack_mem {X : Cx} {pins : List (Addr × Obj)} {σ : St} {H : Hp} {s : Shared} (I : Inv X pins σ H s) {b : Addr} (k : H b ≠ none ∨ ∃ u, X.s₀.heap.get? b = some u) (n : b ∉ X.fs) : b ∉ frs X.stack := fun hb => by
  have hb' := I.stkSub b hb
  rcases List.mem_cons.mp hb' with z | z
  · subst z
    rcases k with k | ⟨u, k⟩
    · exact k I.free
    · exact absurd (Heap.lt_size k) (Nat.not_lt.mpr I.ok.above)
  · exact n z
section
variable {P : Program} {w : World} {K : PySem.W.Frag} {mg : Str → Option Value} {base : Heap} {N : List Str} {qual : Str} {scope : Scope} {f : Addr} {cd : Value} {A : Around} {outer : List Env} {s : Shared} {H : Hp} {E : XK}
/-- what a raise wants of the context -/
def Throws (X : Cx) (E : XK) : Prop := ∀ (pins : List (Addr × Obj)) (σ : St) (H : Hp) (s : Shared) (ea C : Addr) (h' : Heap) (us : List Value), Inv X pins σ H s → Heap.MadeExcOf s.heap h' ea (.ref C) us → E (.ref C) none H → X.xe (.ref ea) { s with heap := h' }
theorem throw_cx : Throws (cxOf (CXE P w) P w K mg base N qual scope f cd A outer s H E) E := by
  intro pins σ H1 s1 ea C h' us I hx hE
  show wpAny _ _ (leaving _ _) _ _ _
  refine wpAny_leaves_madeW (base := PySem.W.hideAll s1.heap (frs (envOfC qual scope s.heap.objs.size f cd :: outer))) (h := s1.heap) I.ok.frames rfl (fun b o q => PySem.W.of_hideAll _ q)
    (PySem.W.funFrames_hide I.stack fun env he a ha => List.mem_filterMap.mpr ⟨env, he, ha⟩) hx fun h2 t fl _ _ up => ?_
  obtain ⟨un2, hok2, kp2⟩ := fly_on (l := envOfC qual scope s.heap.objs.size f cd :: outer) (H := H1) (h := s1.heap) Un.refl I.hok I.stkFree
    (fun b hb o ho => by obtain ⟨_, o', ho', hd⟩ := I.stack.mem hb; rw [ho] at ho'; cases ho'; exact hd) (fun b o e _ n => PySem.W.hideAll_get _ e n) fl.1 ((Heap.UpToSlots.of_keeps hx.keeps).trans up)
  have J := I.call' (s' := { s1 with heap := h2 }) (ch := []) rfl un2 hok2 I.bare (fun b z => absurd z (by simp))
  refine ⟨ea, C, H1, rfl, J.os, J.bare, J.base, J.hok, ⟨_, t, fl, fun b o e k n => kp2 b o e ?_ (stack_mem I k n)⟩, hE⟩
  rcases k with k | ⟨u, k⟩
  · exact .inl k
  · exact .inr (I.base.there b u k (by simp [cxOf]))
/-- an exception of a callee goes on -/
theorem pass_cx : Passes (CXE P w) (cxOf (CXE P w) P w K mg base N qual scope f cd A outer s H E) E := by
  intro pins σ H1 s1 e s' I c
  obtain ⟨ea, C, H', rfl, os, bare, un, hok, ⟨B, t, fl, kp⟩, hE⟩ := c
  have J := I.call' (ch := []) os un hok bare (fun b z => absurd z (by simp))
  show wpAny _ _ (leaving _ _) _ _ _
  refine wpAny_leaves_onW I.ok.frames rfl fl fun h2 fl2 up => ?_
  obtain ⟨un2, hok2, kp2⟩ := fly_on un hok J.stkFree (fun b hb o ho => by obtain ⟨_, o', ho', hd⟩ := fl.2.2.1.mem hb; rw [ho] at ho'; cases ho'; exact hd) kp fl2.1 up
  have J2 := I.call' (s' := { s' with heap := h2 }) (ch := []) os un2 hok2 bare (fun b z => absurd z (by simp))
  refine ⟨ea, C, H', rfl, J2.os, J2.bare, J2.base, J2.hok, ⟨B, t, fl2, fun b o e k n => kp2 b o e ?_ (stack_mem J2 k n)⟩, hE⟩
  rcases k with k | ⟨u, k⟩
  · exact .inl k
  · exact .inr (I.base.there b u k (by simp [cxOf]))
end
/-! ### raise -/
/-- an own class, a ValueError at its root -/
abbrev mroVE : List Value := [.type "ValueError", .type "Exception", .type "BaseException", .type "object"]
theorem exc_obj {K : PySem.W.Frag} {h : Heap} {C : Addr} {bmB : List Value} {newId : String} (X : K.In h) (q : PySem.W.excIn K C bmB newId = true) :
    ∃ bm N nm qn bs hdct sn sub ab col dd k0 k1 k2 k3 k5 mN, h.get? C = some (excClassObj nm qn C N bs bm hdct sn sub ab col dd k0 k1 k2 k3 k5 newId) ∧ h.Ns N mN ∧ mN "__init__" = none ∧ OwnTail h bmB bm := by
  unfold PySem.W.excIn at q
  split at q
  case h_2 => cases q
  case h_1 dd cd sl ho =>
    split at q
    case h_2 => cases q
    case h_1 C' bm k0 k1 k2 k3 n k5 hm hs =>
      simp only [Bool.and_eq_true, beq_iff_eq, Bool.not_eq_true'] at q
      obtain ⟨⟨⟨⟨⟨q1, q2⟩, hdel⟩, ht⟩, hok⟩, hni⟩ := q
      subst q1 q2
      obtain ⟨nm, bs, mro, ns, qn, hd, sn, sub, ab, col, del⟩ := cd
      dsimp only at hm hdel hok hni
      subst hm hdel
      have hsl : sl = #[k0, k1, k2, k3, some (.builtin n), k5] := by obtain ⟨l⟩ := sl; simp only at hs; rw [hs]
      subst hsl
      exact ⟨bm, ns, nm, qn, bs, hd, sn, sub, ab, col, dd, k0, k1, k2, k3, k5, _, X _ _ ho, .of_isNs (PySem.W.isNs_of_in X hok), PySem.W.nsMap_none_of_in X hok hni, PySem.W.tail_of_in X ht⟩
section
variable {X : Cx} {x : Str} {C : Addr} {B newId initId : String} {bm : List Value} {np cpos pos : Pos} {e : Expr} {es : List Expr} {t : TA} {E : XK}
def tRaise (C : Addr) (E : XK) (t : TA) : TS := fun _ σ H => t σ H fun us H1 => us.length ≤ sizeLine ∧ E (.ref C) none H1
theorem ps_raise (hT : Throws X E) (hc : X.calm = true) (hm : X.mg x = some (.ref C)) (hq : PySem.W.excIn X.K C bm newId = true) (FB : ExcBaseFacts B newId initId bm) (ha : PA X (e :: es) t)
    (hg : Gl X x := by rfl) (hd : (x == ("__debug__" : Str)) = false := by decide)
    (he : starEach (e :: es) X.env = (false, eval e X.env) :: starEach es X.env := by rfl) (hpl : (backTo cpos (starEach es X.env)).any (·.1) = false := by rfl) :
    PS X (.Raise (some (.Call (.Name x np) (e :: es) [] cpos)) none pos) (tRaise C E t) := by
  intro pins s σ H D I h
  obtain ⟨tl, Na, nm, q, bs, hdct, sn, sub, ab, col, dd, k0, k1, k2, k3, k5, mN, hC, hN, hni, T⟩ := exc_obj I.ok.mod.kin hq
  refine wpAny_Raise_call_subU (C := C) (nm := nm) (q := q) (N := Na) (bs := bs) (bm := tl) (hdct := hdct) (sn := sn) (sub := sub) (ab := ab) (col := col) (dd := dd) (k0 := k0) (k1 := k1) (k2 := k2) (k3 := k3) (k5 := k5)
    FB FB.hasB FB (mN := mN) (T.hasType FB.hasBase) (I.ok.hd hc) (by rw [he]; show (false || (backTo cpos (starEach es X.env)).any (·.1)) = false; rw [hpl]; rfl) hni (ld_glob I hg hm ⟨rfl, ?_⟩ hd)
  have h2 := ha cpos pins s σ H _ I h
  rw [he] at h2 ⊢
  exact Calls.evalArgs_plain (wpAny_mono h2 (fun us s2 ⟨vs, H2, I2, r, z, q2⟩ => ⟨rfl, by rw [← r.length]; exact z, I2.bk _ _ hC, hN.keeps I2.bk, T.keeps I2.bk, fun h' ea hx => hT pins σ H2 s2 ea C h' us I2 hx q2⟩) fun _ _ y => y)
end
end L2
set_option Elab.async false
set_option linter.all false
set_option maxRecDepth 100000
set_option maxHeartbeats 4000000
namespace L2
open PySem PySem.Spec PyProof.Rows
/-! ### data of any depth: ints, bools, None, tuples, lists -/
inductive Dt where
  | int (i : Int) | bl (b : Bool) | non | tup (xs : List Dt) | lst (xs : List Dt)
mutual
noncomputable def eqD : Dt → Dt → Bool
  | .int a, .int b => a == b
  | .bl a, .bl b => a == b
  | .non, .non => true
  | .tup xs, .tup ys => eqDs xs ys
  | .lst xs, .lst ys => eqDs xs ys
  | _, _ => false
noncomputable def eqDs : List Dt → List Dt → Bool
  | [], [] => true
  | x :: xs, y :: ys => eqD x y && eqDs xs ys
  | _, _ => false
end
mutual
/-- two things that == looks at place by place -/
noncomputable def cmpD : Dt → Dt → Bool
  | .int _, .int _ => true
  | .bl _, .bl _ => true
  | .non, .non => true
  | .tup xs, .tup ys => cmpDs xs ys
  | .lst xs, .lst ys => cmpDs xs ys
  | _, _ => false
noncomputable def cmpDs : List Dt → List Dt → Bool
  | x :: xs, y :: ys => cmpD x y && cmpDs xs ys
  | _, _ => true
end
mutual
noncomputable def dpD : Dt → Nat
  | .tup xs => dpDs xs + 1
  | .lst xs => dpDs xs + 1
  | _ => 0
noncomputable def dpDs : List Dt → Nat
  | [] => 0
  | x :: xs => max (dpD x) (dpDs xs)
end
mutual
theorem eqD_iff : ∀ d e : Dt, eqD d e = true ↔ d = e
  | .int a, e => by cases e <;> simp [eqD]
  | .bl a, e => by cases e <;> simp [eqD]
  | .non, e => by cases e <;> simp [eqD]
  | .tup xs, e => by cases e <;> simp [eqD, eqDs_iff xs]
  | .lst xs, e => by cases e <;> simp [eqD, eqDs_iff xs]
theorem eqDs_iff : ∀ d e : List Dt, eqDs d e = true ↔ d = e
  | [], e => by cases e <;> simp [eqDs]
  | x :: xs, e => by cases e <;> simp [eqDs, eqD_iff x, eqDs_iff xs]
end
theorem eqD_self (d : Dt) : eqD d d = true := (eqD_iff d d).mpr rfl
theorem eqD_ne {d e : Dt} (h : d ≠ e) : eqD d e = false := by
  cases q : eqD d e with
  | false => rfl
  | true => exact absurd ((eqD_iff d e).mp q) h
mutual
noncomputable def At (K : PySem.W.Frag) (H : Hp) : Dt → V → Prop
  | .int i, v => v = .int i
  | .bl b, v => v = .bl b
  | .non, v => v = .non
  | .tup ds, v => ∃ a xs, v = .ref a ∧ SqT K H a xs ∧ Ats K H ds xs
  | .lst ds, v => ∃ a xs, v = .ref a ∧ SqL K H a xs ∧ Ats K H ds xs
noncomputable def Ats (K : PySem.W.Frag) (H : Hp) : List Dt → List V → Prop
  | [], vs => vs = []
  | d :: ds, vs => ∃ v r, vs = v :: r ∧ At K H d v ∧ Ats K H ds r
end
section
variable {K : PySem.W.Frag} {H H' : Hp}
mutual
theorem At.same (s : Same H H') : ∀ {d : Dt} {v : V}, At K H d v → At K H' d v
  | .int i, v, h => by simpa [At] using h
  | .bl i, v, h => by simpa [At] using h
  | .non, v, h => by simpa [At] using h
  | .tup ds, v, h => by
    simp only [At] at h ⊢
    obtain ⟨a, xs, e, h1, h2⟩ := h
    exact ⟨a, xs, e, s.tup h1, Ats.same s h2⟩
  | .lst ds, v, h => by
    simp only [At] at h ⊢
    obtain ⟨a, xs, e, h1, h2⟩ := h
    exact ⟨a, xs, e, s.seq h1, Ats.same s h2⟩
theorem Ats.same (s : Same H H') : ∀ {ds : List Dt} {vs : List V}, Ats K H ds vs → Ats K H' ds vs
  | [], vs, h => by simpa [Ats] using h
  | d :: ds, vs, h => by
    simp only [Ats] at h ⊢
    obtain ⟨v, r, e, h1, h2⟩ := h
    exact ⟨v, r, e, At.same s h1, Ats.same s h2⟩
end
theorem Ats.length : ∀ {ds : List Dt} {vs : List V}, Ats K H ds vs → vs.length = ds.length
  | [], vs, h => by simp only [Ats] at h; simp [h]
  | d :: ds, vs, h => by
    simp only [Ats] at h
    obtain ⟨v, r, e, h1, h2⟩ := h
    rw [e, List.length_cons, List.length_cons, h2.length]
theorem Ats.get : ∀ {ds : List Dt} {vs : List V} {i : Nat} {d : Dt}, Ats K H ds vs → ds[i]? = some d → ∃ v, vs[i]? = some v ∧ At K H d v
  | [], vs, i, d, h, e => by simp at e
  | d' :: ds, vs, i, d, h, e => by
    simp only [Ats] at h
    obtain ⟨v, r, e1, h1, h2⟩ := h
    subst e1
    cases i with
    | zero => simp at e; subst e; exact ⟨v, rfl, h1⟩
    | succ i => simpa using h2.get (i := i) (d := d) (by simpa using e)
theorem Ats.append : ∀ {ds es : List Dt} {vs us : List V}, Ats K H ds vs → Ats K H es us → Ats K H (ds ++ es) (vs ++ us)
  | [], es, vs, us, h, h' => by simp only [Ats] at h; subst h; exact h'
  | d :: ds, es, vs, us, h, h' => by
    simp only [Ats] at h
    obtain ⟨v, r, e1, h1, h2⟩ := h
    subst e1
    simp only [List.cons_append, Ats]
    exact ⟨v, r ++ us, rfl, h1, h2.append h'⟩
end
section
variable {X : Cx} {pins : List (Addr × Obj)} {σ : St} {H : Hp} {s : Shared}
mutual
theorem At.inj (I : Inv X pins σ H s) : ∀ {d e : Dt} {v : V}, cmpD d e = true → At X.K H d v → At X.K H e v → d = e
  | .int i, e, v, c, h, h' => by cases e <;> simp_all [At, cmpD]
  | .bl i, e, v, c, h, h' => by cases e <;> simp_all [At, cmpD]
  | .non, e, v, c, h, h' => by cases e <;> simp_all [At, cmpD]
  | .tup ds, e, v, c, h, h' => by
    cases e with
    | tup es =>
      simp only [At] at h h'
      obtain ⟨a, xs, e1, h1, h2⟩ := h
      obtain ⟨b, ys, e2, g1, g2⟩ := h'
      subst e1
      cases e2
      have e := I.tuple_inj h1 g1
      subst e
      rw [Ats.inj I (by simpa [cmpD] using c) h2 g2]
    | _ => simp [cmpD] at c
  | .lst ds, e, v, c, h, h' => by
    cases e with
    | lst es =>
      simp only [At] at h h'
      obtain ⟨a, xs, e1, h1, h2⟩ := h
      obtain ⟨b, ys, e2, g1, g2⟩ := h'
      subst e1
      cases e2
      have e := I.list_inj h1 g1
      subst e
      rw [Ats.inj I (by simpa [cmpD] using c) h2 g2]
    | _ => simp [cmpD] at c
theorem Ats.inj (I : Inv X pins σ H s) : ∀ {d e : List Dt} {v : List V}, cmpDs d e = true → Ats X.K H d v → Ats X.K H e v → d = e
  | [], e, v, c, h, h' => by
    cases e with
    | nil => rfl
    | cons y ys =>
      simp only [Ats] at h h'
      obtain ⟨v', r, e1, _⟩ := h'
      subst h
      cases e1
  | x :: xs, e, v, c, h, h' => by
    cases e with
    | nil =>
      simp only [Ats] at h h'
      obtain ⟨v', r, e1, _⟩ := h
      subst h'
      cases e1
    | cons y ys =>
      simp only [Ats] at h h'
      obtain ⟨v1, r1, e1, h1, h2⟩ := h
      obtain ⟨v2, r2, e2, g1, g2⟩ := h'
      subst e1
      cases e2
      simp only [cmpDs, Bool.and_eq_true] at c
      rw [At.inj I c.1 h1 g1, Ats.inj I c.2 h2 g2]
end
theorem all_cons {e : Nat → Bool} {n : Nat} : (List.range (n + 1)).all e = (e 0 && (List.range n).all fun j => e (j + 1)) := by
  rw [List.range_succ_eq_map, List.all_cons, List.all_map]
  rfl
mutual
theorem eqAt_D (I : Inv X pins σ H s) : ∀ {d e : Dt} {A : Around} {v u : V} {v' u' : Value}, A.units + dpD d < cLine → cmpD d e = true → At X.K H d v → At X.K H e u → RelV v v' → RelV u u' → SeqAt.EqAt A s v' u' (eqD d e)
  | .int i, e, A, v, u, v', u', hu, c, h, h', rv, ru => by
    cases e with
    | int j =>
      simp only [At] at h h'
      subst h; subst h'
      obtain ⟨t, rfl⟩ := rv
      obtain ⟨t', rfl⟩ := ru
      exact SeqAt.EqAt.int_int i t j t'
    | _ => simp [cmpD] at c
  | .bl i, e, A, v, u, v', u', hu, c, h, h', rv, ru => by
    cases e with
    | bl j =>
      simp only [At] at h h'
      subst h; subst h'
      cases rv; cases ru
      exact SeqAt.EqAt.bool_bool i j
    | _ => simp [cmpD] at c
  | .non, e, A, v, u, v', u', hu, c, h, h', rv, ru => by
    cases e with
    | non =>
      simp only [At] at h h'
      subst h; subst h'
      cases rv; cases ru
      exact SeqAt.EqAt.same _
    | _ => simp [cmpD] at c
  | .tup ds, e, A, v, u, v', u', hu, c, h, h', rv, ru => by
    cases e with
    | tup es =>
      have k := h
      have k' := h'
      simp only [At] at h h'
      obtain ⟨a, xs, e1, h1, h2⟩ := h
      obtain ⟨b, ys, e2, g1, g2⟩ := h'
      subst e1; subst e2
      cases rv; cases ru
      by_cases hab : a = b
      · subst hab
        rw [At.inj I c k k', eqD_self]
        exact SeqAt.EqAt.same _
      · obtain ⟨its, r1, t1, _⟩ := I.tuple h1
        obtain ⟨its2, r2, t2, _⟩ := I.tuple g1
        obtain ⟨f, hf, ef⟩ := eqAt_Ds I (A := A.in1) (by show A.units + 1 + dpDs ds < cLine; simp only [dpD] at hu; (clear hab c; omega)) (by simpa [cmpD] using c) h2 g2 r1 r2
        have q := SeqAt.RcAt.tuples (A := A) (s := s) (e := f) t1 t2 (by (clear ef hab c; omega)) (fun j h1 h2 => by simpa using hf j (by simpa using h1) (by simpa using h2))
        simp only [List.size_toArray] at q
        rw [ef] at q
        have e3 : eqD (.tup ds) (.tup es) = eqDs ds es := by simp only [eqD]
        rw [e3]
        exact SeqAt.EqAt.of_refs hab q
    | _ => simp [cmpD] at c
  | .lst ds, e, A, v, u, v', u', hu, c, h, h', rv, ru => by
    cases e with
    | lst es =>
      have k := h
      have k' := h'
      simp only [At] at h h'
      obtain ⟨a, xs, e1, h1, h2⟩ := h
      obtain ⟨b, ys, e2, g1, g2⟩ := h'
      subst e1; subst e2
      cases rv; cases ru
      by_cases hab : a = b
      · subst hab
        rw [At.inj I c k k', eqD_self]
        exact SeqAt.EqAt.same _
      · obtain ⟨its, r1, t1, _⟩ := I.list h1
        obtain ⟨its2, r2, t2, _⟩ := I.list g1
        obtain ⟨f, hf, ef⟩ := eqAt_Ds I (A := A.in1) (by show A.units + 1 + dpDs ds < cLine; simp only [dpD] at hu; (clear hab c; omega)) (by simpa [cmpD] using c) h2 g2 r1 r2
        have e3 : eqD (.lst ds) (.lst es) = eqDs ds es := by simp only [eqD]
        rw [e3, ← ef]
        by_cases hz : its.length = its2.length
        · have q := SeqAt.RcAt.lists (A := A) (s := s) (e := f) t1.isList t2.isList (by simpa using hz) (by (clear hz e3 ef hab c; omega)) (fun j h1 h2 => by simpa using hf j (by simpa using h1) (by simpa using h2))
          simp only [List.size_toArray] at q
          have e4 : ((List.range (min its.length its2.length)).all f && its.length == its2.length) = (List.range its.length).all f := by
            rw [hz, Nat.min_self]; simp
          rw [e4]
          exact SeqAt.EqAt.of_refs hab q
        · have q := SeqAt.RcAt.lists_lengths (A := A) (s := s) t1.isList t2.isList (by simpa using hz) (by (clear hz e3 ef hab c; omega))
          have e4 : ((List.range (min its.length its2.length)).all f && its.length == its2.length) = false := by simp [hz]
          rw [e4]
          exact SeqAt.EqAt.of_refs hab q
    | _ => simp [cmpD] at c
theorem eqAt_Ds (I : Inv X pins σ H s) : ∀ {ds es : List Dt} {A : Around} {xs ys : List V} {its its2 : List Value}, A.units + dpDs ds < cLine → cmpDs ds es = true → Ats X.K H ds xs → Ats X.K H es ys → Vals xs its → Vals ys its2 →
    ∃ f : Nat → Bool, (∀ j (h1 : j < its.length) (h2 : j < its2.length), SeqAt.EqAt A s its[j] its2[j] (f j)) ∧ ((List.range (min its.length its2.length)).all f && its.length == its2.length) = eqDs ds es
  | [], es, A, xs, ys, its, its2, hu, c, h, h', r, r' => by
    simp only [Ats] at h
    subst h
    cases r
    refine ⟨fun _ => true, fun j h1 => absurd h1 (by simp), ?_⟩
    cases es with
    | nil => simp only [Ats] at h'; subst h'; cases r'; simp [eqDs]
    | cons y ys' =>
      simp only [Ats] at h'
      obtain ⟨v2, r2, e2, g1, g2⟩ := h'
      subst e2
      cases r' with
      | cons q q' => simp [eqDs]
  | d :: ds, es, A, xs, ys, its, its2, hu, c, h, h', r, r' => by
    simp only [Ats] at h
    obtain ⟨v1, r1, e1, h1, h2⟩ := h
    subst e1
    cases r with
    | @cons _ u1 _ us1 q q' =>
      cases es with
      | nil =>
        simp only [Ats] at h'
        subst h'
        cases r'
        exact ⟨fun _ => true, fun j _ h2 => absurd h2 (by simp), by simp [eqDs]⟩
      | cons y ys' =>
        simp only [Ats] at h'
        obtain ⟨v2, r2, e2, g1, g2⟩ := h'
        subst e2
        cases r' with
        | @cons _ u2 _ us2 p p' =>
          simp only [cmpDs, Bool.and_eq_true] at c
          simp only [dpDs] at hu
          have z := eqAt_D I (A := A) (by (clear c; omega)) c.1 h1 g1 q p
          obtain ⟨f, hf, ef⟩ := eqAt_Ds I (A := A) (by (clear c; omega)) c.2 h2 g2 q' p'
          refine ⟨fun j => match j with | 0 => eqD d y | j + 1 => f j, fun j h1 h2 => ?_, ?_⟩
          · cases j with
            | zero => exact z
            | succ j => exact hf j (by simpa using h1) (by simpa using h2)
          · have e4 : min (u1 :: us1).length (u2 :: us2).length = min us1.length us2.length + 1 := by simp
            rw [e4, all_cons]
            simp only [List.length_cons, eqDs, ← ef, Bool.and_assoc]
            congr 2
            simp
end
/-- == and != of tuples and lists -/
noncomputable def rEqD (K : PySem.W.Frag) : R2 := fun x y H Q => ∃ d e, At K H d x ∧ At K H e y ∧ cmpD d e = true ∧ dpD d ≤ 50 ∧ (∃ a, x = .ref a) ∧ Q (.bl (eqD d e)) H
noncomputable def rNeD (K : PySem.W.Frag) : R2 := fun x y H Q => ∃ d e, At K H d x ∧ At K H e y ∧ cmpD d e = true ∧ dpD d ≤ 50 ∧ (∃ a, x = .ref a) ∧ Q (.bl (!eqD d e)) H
theorem rc_D (I : Inv X pins σ H s) {d e : Dt} {A : Around} {v u : V} {v' u' : Value} (hu : A.units + dpD d < cLine) (c : cmpD d e = true) (h : At X.K H d v) (h' : At X.K H e u) (rv : RelV v v') (ru : RelV u u') (hr : ∃ a, v = .ref a) :
    SeqAt.RcAt A s v' u' (eqD d e) ∧ SeqAt.RcNeAt A s v' u' (!eqD d e) := by
  obtain ⟨a, rfl⟩ := hr
  cases d with
  | tup ds =>
    cases e with
    | tup es =>
      simp only [At] at h h'
      obtain ⟨a, xs, e1, h1, h2⟩ := h
      obtain ⟨b, ys, e2, g1, g2⟩ := h'
      cases e1; subst e2
      cases rv; cases ru
      obtain ⟨its, r1, t1, _⟩ := I.tuple h1
      obtain ⟨its2, r2, t2, _⟩ := I.tuple g1
      obtain ⟨f, hf, ef⟩ := eqAt_Ds I (A := A.in1) (by show A.units + 1 + dpDs ds < cLine; simp only [dpD] at hu; (clear c; omega)) (by simpa [cmpD] using c) h2 g2 r1 r2
      have e3 : eqD (.tup ds) (.tup es) = eqDs ds es := by simp only [eqD]
      rw [e3, ← ef]
      have q := SeqAt.RcAt.tuples (A := A) (s := s) (e := f) t1 t2 (by (clear e3 ef c; omega)) (fun j h1 h2 => by simpa using hf j (by simpa using h1) (by simpa using h2))
      have q2 := SeqAt.RcNeAt.tuples (A := A) (s := s) (e := f) t1 t2 (by (clear e3 ef c; omega)) (fun j h1 h2 => by simpa using hf j (by simpa using h1) (by simpa using h2))
      simp only [List.size_toArray] at q q2
      exact ⟨q, q2⟩
    | _ => simp [cmpD] at c
  | lst ds =>
    cases e with
    | lst es =>
      simp only [At] at h h'
      obtain ⟨a, xs, e1, h1, h2⟩ := h
      obtain ⟨b, ys, e2, g1, g2⟩ := h'
      cases e1; subst e2
      cases rv; cases ru
      obtain ⟨its, r1, t1, _⟩ := I.list h1
      obtain ⟨its2, r2, t2, _⟩ := I.list g1
      obtain ⟨f, hf, ef⟩ := eqAt_Ds I (A := A.in1) (by show A.units + 1 + dpDs ds < cLine; simp only [dpD] at hu; (clear c; omega)) (by simpa [cmpD] using c) h2 g2 r1 r2
      have e3 : eqD (.lst ds) (.lst es) = eqDs ds es := by simp only [eqD]
      rw [e3, ← ef]
      by_cases hz : its.length = its2.length
      · have q := SeqAt.RcAt.lists (A := A) (s := s) (e := f) t1.isList t2.isList (by simpa using hz) (by (clear hz e3 ef c; omega)) (fun j h1 h2 => by simpa using hf j (by simpa using h1) (by simpa using h2))
        have q2 := SeqAt.RcNeAt.lists (A := A) (s := s) (e := f) t1.isList t2.isList (by simpa using hz) (by (clear hz e3 ef c; omega)) (fun j h1 h2 => by simpa using hf j (by simpa using h1) (by simpa using h2))
        simp only [List.size_toArray] at q q2
        have e4 : ((List.range (min its.length its2.length)).all f && its.length == its2.length) = (List.range its.length).all f := by
          rw [hz, Nat.min_self]; simp
        rw [e4]
        exact ⟨q, q2⟩
      · have q := SeqAt.RcAt.lists_lengths (A := A) (s := s) t1.isList t2.isList (by simpa using hz) (by (clear hz e3 ef c; omega))
        have q2 := SeqAt.RcNeAt.lists_lengths (A := A) (s := s) t1.isList t2.isList (by simpa using hz) (by (clear hz e3 ef c; omega))
        have e4 : ((List.range (min its.length its2.length)).all f && its.length == its2.length) = false := by simp [hz]
        rw [e4]
        exact ⟨q, q2⟩
    | _ => simp [cmpD] at c
  | _ => simp [At] at h
theorem op_eqD (hu : X.A.units + 60 < cLine) : OpR X (compareOp .Eq) (rEqD X.K) := by
  intro pins s σ H x y v u Q I rx ry h
  obtain ⟨d, e, h1, h2, c, hd, hr, q⟩ := h
  exact (rc_D I (by (clear c; omega)) c h1 h2 rx ry hr).1 X.prog X.w _ _ ⟨.bl _, H, I, rfl, q⟩
theorem op_neD (hu : X.A.units + 60 < cLine) : OpR X (compareOp .NotEq) (rNeD X.K) := by
  intro pins s σ H x y v u Q I rx ry h
  obtain ⟨d, e, h1, h2, c, hd, hr, q⟩ := h
  exact (rc_D I (by (clear c; omega)) c h1 h2 rx ry hr).2 X.prog X.w _ _ ⟨.bl _, H, I, rfl, q⟩
end
/-! ### a fraction as data -/
noncomputable def frD (q : Rat) : Dt := .tup [.int q.num, .int ((q.den : Nat) : Int)]
/-- a fraction stands there -/
noncomputable abbrev FracT (K : PySem.W.Frag) (H : Hp) (p : Addr) (q : Rat) : Prop := SqT K H p [.int q.num, .int ((q.den : Nat) : Int)]
theorem FracT.at {K : PySem.W.Frag} {H : Hp} {p : Addr} {q : Rat} (h : FracT K H p q) : At K H (frD q) (.ref p) := by
  simp only [frD, At, Ats]
  exact ⟨p, _, rfl, h, _, _, rfl, rfl, _, _, rfl, rfl, rfl⟩
theorem frD_inj {q r : Rat} : frD q = frD r ↔ q = r := by
  constructor
  · intro h
    simp only [frD, Dt.tup.injEq, List.cons.injEq, Dt.int.injEq, and_true] at h
    exact Rat.ext h.1 (by have := h.2; (clear this; omega))
  · intro h; rw [h]
theorem eqD_fr (q r : Rat) : eqD (frD q) (frD r) = decide (q = r) := by
  by_cases h : q = r
  · rw [h, eqD_self]; simp
  · rw [eqD_ne (fun z => h (frD_inj.mp z))]; simp [h]
end L2
set_option Elab.async false
set_option linter.all false
set_option maxRecDepth 100000
set_option maxHeartbeats 4000000
namespace L2
open PySem PySem.Spec PyProof.Rows
/-! ### a comprehension's block -/
noncomputable def clOf (env : Env) : List (Str × NameKind) → List (Str × Addr) → List (Str × Addr)
  | [], cs => cs
  | (n, k) :: r, cs => clOf env r (if k = .free then (match env.cells.lookup n with | some c => (n, c) :: cs | none => cs) else cs)
theorem clOf_mem {env : Env} {x : Str} {c : Addr} : ∀ {ns : List (Str × NameKind)} {cs : List (Str × Addr)}, (x, c) ∈ clOf env ns cs → (x, c) ∈ cs ∨ env.cells.lookup x = some c
  | [], cs, h => .inl h
  | (n, k) :: r, cs, h => by
    unfold clOf at h
    rcases clOf_mem h with h | h
    · by_cases hk : k = .free
      · rw [if_pos hk] at h
        cases e : env.cells.lookup n with
        | none => rw [e] at h; exact .inl h
        | some d =>
          rw [e] at h
          rcases List.mem_cons.mp h with h | h
          · cases h; exact .inr e
          · exact .inl h
      · rw [if_neg hk] at h; exact .inl h
    · exact .inr h
theorem clOf_look {env : Env} {x : Str} {c : Addr} (hc : env.cells.lookup x = some c) : ∀ {ns : List (Str × NameKind)} {cs : List (Str × Addr)}, (cs.lookup x = some c ∨ (x, NameKind.free) ∈ ns) → (∀ d, cs.lookup x = some d → d = c) → (clOf env ns cs).lookup x = some c
  | [], cs, h, _ => by
    rcases h with h | h
    · exact h
    · simp at h
  | (n, k) :: r, cs, h, hu => by
    unfold clOf
    have key : ∀ cs' : List (Str × Addr), cs' = (if k = .free then (match env.cells.lookup n with | some c => (n, c) :: cs | none => cs) else cs) → (cs'.lookup x = some c ∨ (x, NameKind.free) ∈ r) ∧ (∀ d, cs'.lookup x = some d → d = c) := by
      rintro cs' rfl
      by_cases hk : k = .free
      · rw [if_pos hk]
        cases e : env.cells.lookup n with
        | none =>
          refine ⟨?_, hu⟩
          rcases h with h | h
          · exact .inl h
          · rcases List.mem_cons.mp h with h | h
            · cases h; rw [hc] at e; cases e
            · exact .inr h
        | some d =>
          by_cases hx : x = n
          · subst hx
            rw [hc] at e; cases e
            refine ⟨.inl (by simp), fun d hd => ?_⟩
            simp at hd; exact hd.symm
          · have hx' : (x == n) = false := by simpa using hx
            refine ⟨?_, fun d' hd => ?_⟩
            · rcases h with h | h
              · exact .inl (by simp only [List.lookup_cons, hx']; exact h)
              · rcases List.mem_cons.mp h with h | h
                · cases h; exact absurd rfl hx
                · exact .inr h
            · simp only [List.lookup_cons, hx'] at hd
              exact hu d' hd
      · rw [if_neg hk]
        refine ⟨?_, hu⟩
        rcases h with h | h
        · exact .inl h
        · rcases List.mem_cons.mp h with h | h
          · cases h; exact absurd rfl hk
          · exact .inr h
    exact clOf_look hc (key _ rfl).1 (key _ rfl).2
noncomputable abbrev clO (scope : Scope) (env : Env) : List (Str × Addr) := clOf env scope.names []
theorem mem_lookup {α : Type} {x : Str} {v : α} : ∀ {l : List (Str × α)}, l.lookup x = some v → (x, v) ∈ l
  | [], h => by simp at h
  | (n, k) :: r, h => by
    by_cases hx : x = n
    · subst hx; simp at h; subst h; simp
    · have hx' : (x == n) = false := by simpa using hx
      simp only [List.lookup_cons, hx'] at h
      exact List.mem_cons_of_mem _ (mem_lookup h)
theorem relabel_look {env : Env} {x : Str} : ∀ {names : List (Str × NameKind)},
    (names.map fun (n, k) => if (k == NameKind.free && env.scope.kind == .function && env.kindOf n == some .cell) then (n, NameKind.cell) else (n, k)).lookup x = (names.lookup x).map fun k => if (k == NameKind.free && env.scope.kind == .function && env.kindOf x == some .cell) then NameKind.cell else k
  | [] => rfl
  | (n, k) :: r => by
    have ih := relabel_look (env := env) (x := x) (names := r)
    show List.lookup x ((if (k == NameKind.free && env.scope.kind == .function && env.kindOf n == some .cell) = true then (n, NameKind.cell) else (n, k)) :: _) = _
    by_cases hx : x = n
    · subst hx
      by_cases hc : (k == NameKind.free && env.scope.kind == .function && env.kindOf x == some .cell) = true
      · rw [if_pos hc]; simp only [List.lookup_cons, beq_self_eq_true, Option.map_some, if_pos hc]
      · rw [if_neg hc]; simp only [List.lookup_cons, beq_self_eq_true, Option.map_some, if_neg hc]
    · have hx' : (x == n) = false := by simpa using hx
      by_cases hc : (k == NameKind.free && env.scope.kind == .function && env.kindOf n == some .cell) = true
      · rw [if_pos hc]; simp only [List.lookup_cons, hx']; exact ih
      · rw [if_neg hc]; simp only [List.lookup_cons, hx']; exact ih
/-- the block's scope fits the def's -/
noncomputable def compScopeOk (sc outer : Scope) (own cap : List Str) : Bool :=
  decide (sc.kind = .function) && sc.names.all (fun y => decide (y.2 ≠ .cell)) && sc.names.all (fun y => decide (y.2 ≠ .local) || decide (sc.names.lookup y.1 = some .local)) &&
  sc.names.all (fun y => decide (y.2 ≠ .free) || decide (outer.names.lookup y.1 = some .cell) || decide (outer.names.lookup y.1 = some .free)) && cap.all (fun x => decide (sc.names.lookup x = some .free)) && decide ((own ++ cap).Nodup)
structure CompSc (sc outer : Scope) (own cap : List Str) : Prop where
  kind : sc.kind = .function
  nocell : ∀ y ∈ sc.names, y.2 ≠ .cell
  loc : ∀ y ∈ sc.names, y.2 = .local → sc.names.lookup y.1 = some .local
  fr : ∀ y ∈ sc.names, y.2 = .free → outer.names.lookup y.1 = some .cell ∨ outer.names.lookup y.1 = some .free
  capd : ∀ x ∈ cap, sc.names.lookup x = some .free
  nd : (own ++ cap).Nodup
theorem compSc_of {sc outer : Scope} {own cap : List Str} (h : compScopeOk sc outer own cap = true) : CompSc sc outer own cap := by
  simp only [compScopeOk, Bool.and_eq_true, List.all_eq_true, Bool.or_eq_true, decide_eq_true_eq] at h
  obtain ⟨⟨⟨⟨⟨h1, h2⟩, h3⟩, h4⟩, h5⟩, h6⟩ := h
  refine ⟨h1, h2, fun y hy e => ?_, fun y hy e => ?_, h5, h6⟩
  · rcases h3 y hy with z | z
    · exact absurd e z
    · exact z
  · rcases h4 y hy with (z | z) | z
    · exact absurd e z
    · exact .inl z
    · exact .inr z
structure CA where
  s : Shared
  H : Hp
  C : Addr
  ex : List Addr
  E : Value → Shared → Prop
noncomputable def capN (X : Cx) (caps : List Nat) : List Str := caps.map fun i => X.N.getD i ""
noncomputable def compX (X : Cx) (scope : Scope) (own : List Str) (caps : List Nat) (Z : CA) : Cx :=
  { prog := X.prog, w := X.w, K := X.K, mg := X.mg, base := X.base, A := X.A, N := own ++ capN X caps, s₀ := Z.s, H₀ := Z.H, env := compEnvC scope (clO scope X.env) Z.C X.env, outer := X.stack, stack := X.stack, ex := Z.ex, fn := fun _ => false, calm := X.calm, pn := [], xe := Z.E }
/-- the block's names -/
noncomputable def σc (n : Nat) (caps : List Nat) (σ : St) : St := List.replicate n none ++ caps.map fun i => (σ[i]?).getD none
section
variable {X : Cx} {pins : List (Addr × Obj)} {σ : St} {H : Hp} {s : Shared} {scope : Scope} {own : List Str} {caps : List Nat} {fp : List Addr} {C D : Addr} {h1 : Heap} {tk : Nat} {E : Value → Shared → Prop}
theorem cl_sub {x : Str} {c : Addr} (h : (clO scope X.env).lookup x = some c) : X.env.cells.lookup x = some c := by
  rcases clOf_mem (mem_lookup h) with z | z
  · simp at z
  · exact z
theorem comp_inv (I : Inv X pins σ H s) (S : CompSc scope X.env.scope own (capN X caps)) (hf : ∀ b ∈ fp, FpOk X pins H b) (hfs : ∀ b ∈ fp, b < s.heap.objs.size) (hC : s.heap.objs.size ≤ C) (hn : h1.Ns C fun _ => none) (k : ∀ b o, s.heap.get? b = some o → h1.get? b = some o) :
    Inv (compX X scope own caps ⟨s, H, C, fp, E⟩) [] (σc own.length caps σ) H { s with heap := h1, toks := tk } := by
  have csub := fun {x c} h => cl_sub (X := X) (scope := scope) (x := x) (c := c) h
  have kinds : ∀ x, ((compX X scope own caps ⟨s, H, C, fp, E⟩).env.kindOf x = some .cell ∨ (compX X scope own caps ⟨s, H, C, fp, E⟩).env.kindOf x = some .free) → scope.names.lookup x = some .free := fun x hx => by
    have e : (compX X scope own caps ⟨s, H, C, fp, E⟩).env.kindOf x = (scope.names.lookup x).map fun k => if (k == NameKind.free && X.env.scope.kind == .function && X.env.kindOf x == some .cell) then NameKind.cell else k := relabel_look
    rw [e] at hx
    cases q : scope.names.lookup x with
    | none => rw [q] at hx; simp at hx
    | some kd =>
      rw [q] at hx
      have nc := S.nocell _ (mem_lookup q)
      cases kd <;> simp at hx nc ⊢
  have outk : ∀ x, scope.names.lookup x = some .free → X.env.kindOf x = some .cell ∨ X.env.kindOf x = some .free := fun x hx => S.fr _ (mem_lookup hx) rfl
  have look : ∀ x c, scope.names.lookup x = some .free → X.env.cells.lookup x = some c → (clO scope X.env).lookup x = some c := fun x c hx hc =>
    clOf_look hc (.inr (mem_lookup hx)) (fun d hd => by simp at hd)
  refine ⟨⟨I.ok.mod, S.kind, I.ok.glob, I.ok.blt, hC, fun x y c h1 h2 => I.ok.inj x y c (csub h1) (csub h2), fun x hx => ?_, fun x c hx => (nomatch hx), I.ok.hd, I.ok.frames, .inl rfl, fun b hb => ⟨?_, fun x c h => (hf b hb).2.2.2.2.1 x c (csub h)⟩, I.bs, Nat.le_trans I.ok.bsz I.sz, fun b o e hb => ?_, fun b hb z => ?_, I.stack, I.stkFree⟩,
    rfl, I.bare, Un.kept k, ⟨_, hn, fun i x v e1 e2 e3 => ?_⟩, fun x c h => ?_, I.hok.fresh hC, fun x c h => I.freeC x c (csub h), fun p hp => absurd (show p ∈ ([] : List (Addr × Obj)) from hp) (by simp), I.hok.kept k, ?_⟩
  · have hx' := kinds x hx
    obtain ⟨c, hc⟩ := I.ok.has x (outk x hx')
    exact ⟨c, look x c hx' hc⟩
  · exact Nat.ne_of_lt (Nat.lt_of_lt_of_le (hfs b hb) hC)
  · obtain ⟨f0, f1, f2, f3, _⟩ := hf b hb
    rcases f3 with z | z
    · exact I.ok.noex b o e z
    · exact absurd (Nat.lt_of_lt_of_le (Heap.lt_size e) (Nat.le_trans I.ok.bsz z)) (Nat.lt_irrefl _)
  · obtain ⟨f0, f1, f2, f3, _⟩ := hf b hb
    rcases List.mem_cons.mp (I.stkSub b z) with q | q
    · exact f1 q
    · exact f2 q
  · have e1' : (own ++ capN X caps)[i]? = some x := e1
    unfold σc at e2
    by_cases hi : i < own.length
    · rw [List.getElem?_append_left (by simpa using hi), List.getElem?_replicate] at e2
      rw [if_pos hi] at e2; cases e2
    · have hi' : own.length ≤ i := Nat.le_of_not_lt hi
      rw [List.getElem?_append_right (by simpa using hi')] at e2
      rw [List.getElem?_append_right hi'] at e1'
      simp only [List.length_replicate] at e2
      unfold capN at e1'
      rw [List.getElem?_map] at e1' e2
      cases q : caps[i - own.length]? with
      | none => rw [q] at e2; cases e2
      | some c =>
        rw [q] at e1' e2
        simp only [Option.map_some, Option.some.injEq] at e1' e2
        cases q2 : σ[c]? with
        | none => rw [q2] at e2; cases e2
        | some ov =>
          rw [q2] at e2
          simp only [Option.getD_some] at e2
          subst e2
          have hc : c < X.N.length := by rw [← I.len]; exact (List.getElem?_eq_some_iff.mp q2).1
          have hN : X.N[c]? = some x := by
            rw [List.getD_eq_getElem?_getD, List.getElem?_eq_getElem hc, Option.getD_some] at e1'
            rw [List.getElem?_eq_getElem hc, e1']
          have hx : scope.names.lookup x = some .free := S.capd x (by
            unfold capN
            refine List.mem_map.mpr ⟨c, List.mem_of_getElem? q, e1'⟩)
          have ok := outk x hx
          obtain ⟨m, hnm, hl⟩ := I.loc
          obtain ⟨u, r, l⟩ := hl c x v hN q2 (ok.elim (fun z => .inr (.inl z)) fun z => .inr (.inr z))
          refine ⟨u, r, ?_⟩
          rcases l with ⟨z, _⟩ | ⟨_, cc, hcc, o, ho, hd⟩
          · rcases ok with w' | w' <;> rw [w'] at z <;> cases z
          · refine .inr ⟨?_, cc, look x cc hx hcc, o, k _ _ ho, hd⟩
            have e : (compX X scope own caps ⟨s, H, C, fp, E⟩).env.kindOf x = (scope.names.lookup x).map fun k => if (k == NameKind.free && X.env.scope.kind == .function && X.env.kindOf x == some .cell) then NameKind.cell else k := relabel_look
            rw [e, hx]
            simp only [Option.map_some]
            split <;> simp
  · obtain ⟨v, o, ho, hd⟩ := I.cell x c (csub h)
    exact ⟨v, o, k _ _ ho, hd⟩
  · show (σc own.length caps σ).length = (own ++ capN X caps).length
    unfold σc capN
    simp
theorem un_behind {fs ex : List Addr} {H H1 : Hp} {h h1 : Heap} {o : HO} (u : Un fs ex H H1 h h1) (hD : h.objs.size ≤ D) (hn : H1 D = none) : Un fs ex H (upd H1 D o) h h1 := by
  have nd : ∀ b u', H1 b = some u' → b ≠ D := fun b u' e => ne_of_none e hn
  exact ⟨u.keep, u.slot, fun b ob e n hx => by rw [upd_ne (Nat.ne_of_lt (Nat.lt_of_lt_of_le (Heap.lt_size e) hD))]; exact u.free b ob e n hx, u.there, fun b xs e => by
    have := u.tups b xs e
    rw [upd_ne (nd b _ this)]; exact this, fun b ob xs e => by
    have := u.frzs b ob xs e
    rw [upd_ne (nd b _ this)]; exact this, fun b ps e => by
    obtain ⟨m, q⟩ := u.tbls b ps e
    exact ⟨m, by rw [upd_ne (nd b _ q)]; exact q⟩⟩
theorem hok_behind {P : Program} {w : World} {H : Hp} {h : Heap} {o : HO} (x : HOk P w H h) (hn : H D = none) (new : ObjOk P w (upd H D o) h D o) : HOk P w (upd H D o) h := fun b u e => by
  by_cases hb : b = D
  · subst hb; rw [upd_same] at e; cases e; exact new
  · rw [upd_ne hb] at e
    exact (x b u e).stay (fun c v _ q => q) (fun c q => by rw [upd_ne (ne_of_none q hn)]; exact q) fun c xs q => by rw [upd_ne (ne_of_none q hn)]; exact q
end
/-! ### the loop of a block: any target, any tests -/
section
variable {prog : Program} {w : World} {A : Around} {R : Result → Shared → Prop} {s : Shared}
theorem compLoop_any {elt target iter : Expr} {ifs : List Expr} {scope : Scope} {pos : Pos} {it acc : Value} {env : Env} (I : Nat → Shared → Prop)
    (turn : ∀ n s, I n s → wpAny (model prog w) A (pyNext it) (fun r s₁ => match r with
      | none => R (.ok .next) s₁
      | some v => wpAny (model prog w) A (letOwnedTupleGo target it v) (fun _ s₁' => wpAny (model prog w) A (assign target env v) (fun _ s₂ =>
          wpAny (model prog w) A (forIn ifs true fun c r => if r = true then do let ok ← isTrue c env (eval c env); pure (ForInStep.yield ok) else pure (ForInStep.yield r)) (fun ok s₃ =>
            if ok = true then wpAny (model prog w) A (eval elt env) (fun x s₄ =>
              wpAny (model prog w) A (call (.builtin "list.append") [acc, x]) (fun _ s₅ => ∃ m, m < n ∧ I m s₅) (notedBy (model prog w) A env fun e s' => R (.error e) s') s₄) (notedBy (model prog w) A env fun e s' => R (.error e) s') s₃
            else ∃ m, m < n ∧ I m s₃) (notedBy (model prog w) A env fun e s' => R (.error e) s') s₂) (notedBy (model prog w) A env fun e s' => R (.error e) s') s₁') (notedBy (model prog w) A env fun e s' => R (.error e) s') s₁) (notedBy (model prog w) A env fun e s' => R (.error e) s') s)
    (n : Nat) (h : I n s) :
    codeAny (model prog w) A (.compLoop (.ListComp elt [⟨target, iter, ifs, 0⟩] scope pos) 0 it acc env) R s := by
  refine codeAny_loop rfl I (fun n s hI => ?_) n h
  show wpAny _ A ((compTurn (.ListComp elt [⟨target, iter, ifs, 0⟩] scope pos) 0 it acc env).onRaise (fun x => do noteFrame x env; theTreesLotGoes x)) _ _ s
  refine wpAny_noted ?_
  rw [compTurn_list]
  refine wpAny_bind (wpAny_standAt (wpAny_bind (wpAny_mono (turn n s hI) (fun r s₁ h₁ => ?_) fun _ _ h' => h')))
  cases r with
  | none => exact wpAny_pure h₁
  | some v =>
    refine wpAny_bind (wpAny_mono h₁ (fun _ s₁' h₁' => ?_) fun _ _ h' => h')
    refine wpAny_bind (wpAny_mono h₁' (fun _ s₂ h₂ => wpAny_bind (wpAny_mono h₂ (fun ok s₃ h₃ => ?_) fun _ _ h' => h')) fun _ _ h' => h')
    cases ok with
    | false => exact wpAny_pure ⟨rfl, h₃⟩
    | true =>
      exact wpAny_bind (wpAny_bind (wpAny_mono h₃ (fun x s₄ h₄ => wpAny_bind (wpAny_mono h₄ (fun _ s₅ h₅ => wpAny_pure (wpAny_pure ⟨rfl, h₅⟩)) fun _ _ h' => h')) fun _ _ h' => h'))
end
/-- the tests of a clause -/
noncomputable def PTs (X : Cx) (ifs : List Expr) (t : TT) : Prop :=
  ∀ (pins : List (Addr × Obj)) (s : Shared) (σ : St) (H : Hp) (Q : Bool → Hp → Prop), Inv X pins σ H s → t σ H Q →
    wpAny (model X.prog X.w) X.A (forIn ifs true fun c r => if r = true then do let ok ← isTrue c X.env (eval c X.env); pure (ForInStep.yield ok) else pure (ForInStep.yield r)) (TP X pins σ Q) X.xe s
noncomputable def tAll : TT := fun _ H Q => Q true H
theorem allT {σ : St} {H : Hp} {A B : Hp → Prop} (h : A H) : tAll σ H (fun b H3 => if b = true then A H3 else B H3) := by
  show (if true = true then A H else B H)
  rw [if_pos rfl]
  exact h
theorem pts_nil {X : Cx} : PTs X [] tAll := fun _ _ _ H _ I h => wpAny_tests_nil ⟨H, I, h⟩
theorem pts_one {X : Cx} {c : Expr} {t : TT} (h : PT X c t) : PTs X [c] t := fun pins s σ H Q I hw => wpAny_tests_one (h pins s σ H Q I hw)
/-- the names that were given stay -/
noncomputable def Keepσ (σ σ2 : St) : Prop := σ2.length = σ.length ∧ ∀ (i : Nat) v, σ[i]? = some (some v) → σ2[i]? = some (some v)
theorem keep1 {v : Option V} {r : St} : Keepσ (none :: r) (v :: r) := ⟨rfl, fun i w h => by cases i with | zero => cases h | succ i => exact h⟩
theorem keep2 {v w : Option V} {r : St} : Keepσ (none :: none :: r) (v :: w :: r) := ⟨rfl, fun i w h => by
  cases i with
  | zero => cases h
  | succ i => cases i with | zero => cases h | succ i => exact h⟩
/-- the block's reading: W by turn, measure, the items so far -/
noncomputable def tBlock (g : TG) (tt : TT) (te : TE) (σ : St) (fin : List V → Hp → Prop) (J : It) (H1 : Hp) : Prop :=
  ∃ W : Nat → Nat → List V → Hp → Prop, (∃ m, W 0 m [] H1) ∧ ∀ i m ys H, W i m ys H →
    (J.stop i H ∧ ys.length ≤ sizeLine ∧ fin ys H) ∨ (J.go i H ∧ ys.length < sizeLine ∧ ∃ N : List V → Hp → Prop, (∀ ys' H', N ys' H' → ∃ m', m' < m ∧ W (i + 1) m' ys' H') ∧
      ∀ x H', J.yld i H x H' → g x σ H' fun σ2 H2 => Keepσ σ σ2 ∧ tt σ2 H2 fun b H3 => if b = true then te σ2 H3 fun y H4 => N (ys ++ [y]) H4 else N ys H3)
section
variable {X : Cx} {scope : Scope} {own : List Str} {caps : List Nat} {elt tg iter : Expr} {ifs : List Expr} {wi : TI} {g : TG} {tt : TT} {te : TE} {pos : Pos}
theorem comp_core {cpos : Pos} {use : Option (Value → Sem Unit)} {QQ : Value → Shared → Prop} {fin : List V → Hp → Prop} {pins : List (Addr × Obj)} {s : Shared} {σ : St} {H : Hp} (hc : X.calm = true) (S : CompSc scope X.env.scope own (capN X caps))
    (hclos : closureFor scope X.env = pure (clO scope X.env)) (hi : PI X tg iter wi) (hg : ∀ Z, (compX X scope own caps Z).N.Nodup → PG (compX X scope own caps Z) tg g) (ht : ∀ Z, PTs (compX X scope own caps Z) ifs tt) (he : ∀ Z, PE (compX X scope own caps Z) elt te)
    (hs : ∀ x, foldedSetIterable iter X.env x = pure x) (I : Inv X pins σ H s) (h : wi σ H (tBlock g tt te (σc own.length caps σ) fin))
    (hfin : ∀ (D C : Addr) (H' : Hp) (ys : List V) (s4 : Shared) (m : Str → Option Value), Inv X pins σ (upd H' D (.lst ys)) s4 → H' D = none → fin ys H' → s4.heap.Ns C m → FpOk X pins (upd H' D (.lst ys)) C → C ≠ X.env.locals → (∀ x c, X.env.cells.lookup x = some c → c ≠ C) →
      compPost (model X.prog X.w) X.A X.xe use QQ (.ref D) C (.ok .next) s4) :
    wpAny (model X.prog X.w) X.A (comprehension (.ListComp elt [⟨tg, iter, ifs, 0⟩] scope pos) scope X.env cpos (newList []) false (eval iter X.env) use) QQ X.xe s := by
  refine wpAny_comprehension_free rfl hs hclos S.kind S.loc ?_
  refine thn (hi pins s σ H _ I h) fun v s1 h1 => thn h1 fun itv s2 h2 => ?_
  obtain ⟨it, fp, tn, J, H2, e, I2, T, st2, f2, W, ⟨m0, w0⟩, turn⟩ := h2
  subst e
  have hfs : ∀ b ∈ fp, b < s2.heap.objs.size := fun b hb => by
    obtain ⟨o, ho, _⟩ := T.obj _ _ st2 b hb
    exact Heap.lt_size ho
  refine wpAny_newObj_type (wpAny_newFunctionEnv S.nocell (by intro y hy; simp at hy) (fun h₁ hns₁ hsb₁ => ?_) S.kind)
  dsimp only at hns₁ hsb₁ ⊢
  generalize hH2 : s2.heap.push { cls := .type "list", dict := none, data := .seq ([] : List Value).toArray } = G2 at hns₁ hsb₁ ⊢
  have hC : G2.objs.size = s2.heap.objs.size + 1 := by rw [← hH2, Heap.size_push]
  generalize hD0 : s2.heap.objs.size = D at hC ⊢
  have hDC : D ≠ G2.objs.size := by rw [hC]; exact Nat.ne_of_lt (Nat.lt_succ_self _)
  have below : ∀ b, b < D → b ≠ G2.objs.size ∧ b ≠ D := fun b hb => ⟨by rw [hC]; exact Nat.ne_of_lt (Nat.lt_succ_of_lt hb), Nat.ne_of_lt hb⟩
  have hDf : D ∉ fp := fun hm => by have := hfs _ hm; rw [hD0] at this; exact Nat.lt_irrefl _ this
  have hCf : G2.objs.size ∉ fp := fun hm => by have := hfs _ hm; rw [hD0, hC] at *; exact Nat.lt_irrefl _ (Nat.lt_of_succ_lt this)
  have old : ∀ b o, s2.heap.get? b = some o → h₁.get? b = some o := fun b o e => hsb₁.extBut b o (below b (hD0 ▸ Heap.lt_size e)).1 (Heap.get?_push_of_some _ (hH2 ▸ Heap.get?_push_of_some _ e))
  have hacc : h₁.PlainList D #[] := ⟨_, hsb₁.extBut _ _ hDC (Heap.get?_push_of_some _ (by rw [← hH2, ← hD0]; exact Heap.get?_push_size _ rfl))⟩
  have st1 : tn 0 h₁ := T.keep _ _ _ st2 fun b _ o e => old b o e
  have hn0 : h₁.Ns G2.objs.size fun _ => none := by simpa using hns₁
  generalize hCC : G2.objs.size = C at *
  -- the loop
  have hCle : s2.heap.objs.size ≤ C := by rw [hD0, hC]; exact Nat.le_succ _
  have loop : ∀ s₃ : Shared, s₃ = { s2 with heap := h₁, toks := s2.toks + ([] : List (Str × Value)).length } →
      codeAny (model X.prog X.w) X.A (.compLoop (.ListComp elt [⟨tg, iter, ifs, 0⟩] scope pos) 0 (.ref it) (.ref D) (compEnvC scope (clO scope X.env) C X.env)) (compPost (model X.prog X.w) X.A X.xe use QQ (.ref D) C) s₃ := by
    rintro s₃ rfl
    let E' : Value → Shared → Prop := notedBy (model X.prog X.w) X.A (compEnvC scope (clO scope X.env) C X.env) fun e s' => compPost (model X.prog X.w) X.A X.xe use QQ (.ref D) C (.error e) s'
    let Z : CA := ⟨s2, H2, C, fp, E'⟩
    let Xc : Cx := compX X scope own caps Z
    have I0 : Inv Xc [] (σc own.length caps σ) H2 { s2 with heap := h₁, toks := s2.toks + ([] : List (Str × Value)).length } := comp_inv I2 S f2 hfs hCle hn0 old
    -- what the iterator's records and the list are to the block
    have fpc : ∀ {H' : Hp} {pl : List (Addr × Obj)}, (∀ b ∈ fp, H' b = none) → (∀ p ∈ pl, p.1 ∉ fp) → ∀ b ∈ fp, FpOk Xc pl H' b := fun {H' pl} hn hp b hb => by
      obtain ⟨f0, f1, f2', f3, f4, f5⟩ := f2 b hb
      refine ⟨hn b hb, Nat.ne_of_lt (Nat.lt_of_lt_of_le (hfs b hb) hCle), fun z => ?_, .inl hb, fun x c e => f4 x c (cl_sub e), fun p hpp z => ?_⟩
      · rcases List.mem_cons.mp (I2.stkSub b z) with q | q
        · exact f1 q
        · exact f2' q
      · exact hp p hpp (by rw [z]; exact hb)
    have Dc : ∀ {H' : Hp}, H' D = none → H' D = none ∧ D ≠ C ∧ D ∉ Xc.fs ∧ (D ∈ Xc.ex ∨ Xc.s₀.heap.objs.size ≤ D) ∧ ∀ x c, Xc.env.cells.lookup x = some c → c ≠ D := fun {H'} hn => by
      refine ⟨hn, hDC, fun z => ?_, .inr (Nat.le_of_eq hD0), fun x c e z => ?_⟩
      · rcases List.mem_cons.mp (I2.stkSub D z) with q | q
        · exact absurd I2.lt (by rw [← q, hD0]; exact Nat.lt_irrefl _)
        · exact I2.nofs (Nat.le_of_eq hD0) q
      · obtain ⟨v', q⟩ := I2.cell x c (cl_sub e)
        have := q.lt
        rw [z, hD0] at this
        exact Nat.lt_irrefl _ this
    refine compLoop_any
      (fun n s' => ∃ (i : Nat) (H' : Hp) (ys : List V) (its : List Value) (nl : Nat), Inv Xc [(D, { cls := .type "list", data := .seq its.toArray nl })] (σc own.length caps σ) H' s' ∧ tn i s'.heap ∧ (∀ b ∈ fp, H' b = none) ∧ Vals ys its ∧ W i n ys H') ?_ m0 ?_
    · rintro n s3 ⟨i, H3, ys, its, nl, I3, st3, fr3, rv3, w3⟩
      have pD := I3.pin (D, _) (List.mem_append_right _ (List.mem_singleton.mpr rfl))
      have pfp : ∀ p ∈ [((D, { cls := .type "list", data := .seq its.toArray nl }) : Addr × Obj)], p.1 ∉ fp := fun p hp => by
        have this := List.mem_singleton.mp hp
        subst this; exact hDf
      rcases turn i n ys H3 w3 with ⟨stop, hz, qn⟩ | ⟨go, hz, N, hN, step⟩
      · refine thn (T.done Xc rfl rfl rfl hc i _ s3 _ H3 E' I3 (fpc fr3 pfp) st3 stop) fun r s4 ⟨hr, I4⟩ => ?_
        subst hr
        have pD4 := I4.pin (D, _) (List.mem_append_right _ (List.mem_singleton.mpr rfl))
        obtain ⟨m, hnC, _⟩ := I4.loc
        have J : Inv X pins σ (upd H3 D (.lst ys)) s4 := I2.call' I4.os (un_behind I4.base (Nat.le_of_eq hD0) pD4.2.1) (hok_behind I4.hok pD4.2.1 ⟨hz, its, nl, rv3, pD4.1⟩) I4.bare fun b hb => by
          obtain ⟨f0, f1, f2', f3, f4, f5⟩ := f2 b hb
          exact ⟨f3, f1, f4, f5⟩
        have HC : (upd H3 D (.lst ys)) C = none := by rw [upd_ne (Ne.symm hDC)]; exact I4.free
        have FC := I2.fpOk (H' := upd H3 D (.lst ys)) hCle HC
        exact hfin D C H3 ys s4 m J pD4.2.1 qn hnC FC FC.2.1 FC.2.2.2.2.1
      · refine thn (T.item Xc rfl rfl rfl hc i _ s3 _ H3 E' I3 (fpc fr3 pfp) st3 go) fun r s4 ⟨u, hr, h4⟩ => ?_
        subst hr
        refine thn h4 fun _ s5 ⟨x, H5, I5, r5, y5, st5, fr5⟩ => ?_
        have I5' := I5.pinned (fpc fr5 pfp) (T.obj _ _ st5)
        refine thn (hg Z S.nd _ s5 _ H5 x u _ I5' r5 (step x H5 y5)) fun _ s6 ⟨σ6, H6, I6, kσ, q6⟩ => ?_
        refine thn (ht Z _ s6 σ6 H6 _ I6 q6) fun b s7 ⟨H7, I7, q7⟩ => ?_
        have back : ∀ {H8 : Hp} {s8 : Shared} {its8 : List Value} {nl8 : Nat} {ys8 : List V}, Inv Xc ([((D, { cls := .type "list", data := .seq its8.toArray nl8 }) : Addr × Obj)] ++ pinsAt fp s5.heap) σ6 H8 s8 → Vals ys8 its8 → N ys8 H8 →
            ∃ m, m < n ∧ ∃ (i : Nat) (H' : Hp) (ys : List V) (its : List Value) (nl : Nat), Inv Xc [(D, { cls := .type "list", data := .seq its.toArray nl })] (σc own.length caps σ) H' s8 ∧ tn i s8.heap ∧ (∀ b ∈ fp, H' b = none) ∧ Vals ys its ∧ W i m ys H' := fun {H8 s8 its8 nl8 ys8} I8 rv8 n8 => by
          obtain ⟨m', hm, w8⟩ := hN ys8 H8 n8
          have pin8 : ∀ b ∈ fp, ∀ o, s5.heap.get? b = some o → s8.heap.get? b = some o ∧ H8 b = none := fun b hb o e =>
            let q := I8.pin (b, o) (List.mem_append_right _ (List.mem_append_right _ (mem_pinsAt hb e))); ⟨q.1, q.2.1⟩
          refine ⟨m', hm, i + 1, H8, ys8, its8, nl8, ?_, T.keep _ _ _ st5 fun b hb o e => (pin8 b hb o e).1, fun b hb => ?_, rv8, w8⟩
          · exact Inv.unpinned (I8.weak kσ.1.symm kσ.2)
          · obtain ⟨o, e, d⟩ := T.obj _ _ st5 b hb
            exact (pin8 b hb o e).2
        cases b with
        | false =>
          rw [if_neg Bool.false_ne_true]
          rw [if_neg Bool.false_ne_true] at q7
          exact back I7 rv3 q7
        | true =>
          rw [if_pos rfl]
          rw [if_pos rfl] at q7
          refine thn (he Z _ s7 σ6 H7 _ I7 q7) fun yv s8 ⟨y, H8, I8, r8, q8⟩ => ?_
          have pD8 := I8.pin (D, _) (List.mem_append_right _ (List.mem_append_left _ (List.mem_singleton.mpr rfl)))
          have hl8 : s8.heap.PlainList D its.toArray := ⟨nl, pD8.1⟩
          have hlen := rv3.length
          refine wpAny_list_append_plain (hsz := by simp; (clear pD8 pD hCle hCf hDC hC hCC hDf hD0 hH2 hclos hc; omega)) hl8 fun h9 hl9 hs9 => ?_
          obtain ⟨d0, d1, d2, d3, d4⟩ := Dc pD8.2.1
          have I8' : Inv Xc (pinsAt fp s5.heap) σ6 H8 s8 := I8.pins_of fun p hp => I8.pin p (List.mem_append_right _ (List.mem_append_right _ hp))
          have I9 : Inv Xc (pinsAt fp s5.heap) σ6 H8 { s8 with heap := h9 } := I8'.turned (t' := s8.toks) (fun b o hb e => hs9.extBut b o hb e) d0 d1 d3 d4 (fun p hp z => by
            have hp' : p ∈ pinsAt fp s5.heap := by
              rcases List.mem_append.mp hp with q | q
              · exact absurd (show p ∈ ([] : List (Addr × Obj)) from q) (by simp)
              · exact q
            exact hDf (by rw [← z]; exact (of_pinsAt hp').1))
          obtain ⟨nl9, e9⟩ := hl9
          have e9' : h9.get? D = some { cls := .type "list", data := .seq (its ++ [yv]).toArray nl9 } := by simpa using e9
          have I9' : Inv Xc ([((D, { cls := .type "list", data := .seq (its ++ [yv]).toArray nl9 }) : Addr × Obj)] ++ pinsAt fp s5.heap) σ6 H8 { s8 with heap := h9 } := I9.pins_of fun p hp => by
            rcases List.mem_append.mp hp with q | q
            · have this := List.mem_singleton.mp q
              subst this
              exact ⟨e9', d0, d1, d2, fun v z => nomatch z⟩
            · exact I9.pin p (List.mem_append_right _ q)
          exact back I9' (rv3.append (.cons r8 .nil)) q8
    · refine ⟨0, H2, [], [], ?_⟩
      obtain ⟨nl0, e0⟩ := hacc
      refine ⟨nl0, I0.pins_of fun p hp => ?_, st1, fun b hb => (f2 b hb).1, .nil, w0⟩
      have this := List.mem_singleton.mp hp
      subst this
      have hHD : H2 D = none := I2.hok.fresh (Nat.le_of_eq hD0)
      obtain ⟨d0, d1, d2, d3, d4⟩ := Dc hHD
      exact ⟨e0, d0, d1, d2, fun v z => nomatch z⟩
  exact codeAny_compStart_list (loop _ rfl) (T.self X.A 0 _ _ _ st1 (loop _ rfl))
/-- [.. for .. in ..] as a value -/
noncomputable def tComp (wi : TI) (g : TG) (tt : TT) (te : TE) (n : Nat) (caps : List Nat) : TE := fun σ H Q => wi σ H (tBlock g tt te (σc n caps σ) fun ys H' => ∀ D, H' D = none → Q (.ref D) (upd H' D (.lst ys)))
theorem pe_comp (own : List Str) (caps : List Nat) (hc : X.calm = true) (hi : PI X tg iter wi) (hg : ∀ Z, (compX X scope own caps Z).N.Nodup → PG (compX X scope own caps Z) tg g) (ht : ∀ Z, PTs (compX X scope own caps Z) ifs tt) (he : ∀ Z, PE (compX X scope own caps Z) elt te)
    (S : compScopeOk scope X.env.scope own (capN X caps) = true := by first | rfl | decide +kernel) (hclos : closureFor scope X.env = pure (clO scope X.env) := by rfl) (hs : ∀ x, foldedSetIterable iter X.env x = pure x := by intro _; rfl) :
    PE X (.ListComp elt [⟨tg, iter, ifs, 0⟩] scope pos) (tComp wi g tt te own.length caps) := by
  intro pins s σ H Q I h
  rw [eval_ListComp]
  refine comp_core (use := none) hc (compSc_of S) hclos hi hg ht he hs I h fun D C H' ys s4 m J hD q hn F hL hCl => ?_
  refine ⟨m, hn, fun h' hs' => ?_⟩
  obtain ⟨f0, f1, f2, f3, f4, f5⟩ := F
  exact ⟨.ref D, _, J.turned (t' := s4.toks) (fun b o hb e => hs'.extBut b o hb e) f0 f1 f3 f4 f5, rfl, q D hD⟩
/-- name = [.. for ..], where Python stores ahead of letting the block's names go -/
noncomputable def tSetComp (i : Nat) (wi : TI) (g : TG) (tt : TT) (te : TE) (n : Nat) (caps : List Nat) : TS := fun E σ H => wi σ H (tBlock g tt te (σc n caps σ) fun ys H' => ∀ D, H' D = none → E.nx (σ.set i (some (.ref D))) (upd H' D (.lst ys)))
theorem ps_setC {i : Nat} {y : Str} {py spos : Pos} (own : List Str) (caps : List Nat) (hN : X.N.Nodup) (hy : X.N[i]? = some y) (hk : X.env.scope.names.lookup y = some .local) (hc : X.calm = true) (hi : PI X tg iter wi) (hg : ∀ Z, (compX X scope own caps Z).N.Nodup → PG (compX X scope own caps Z) tg g) (ht : ∀ Z, PTs (compX X scope own caps Z) ifs tt) (he : ∀ Z, PE (compX X scope own caps Z) elt te)
    (hsw : swapsWith (.ListComp elt [⟨tg, iter, ifs, 0⟩] scope pos) (some (.Name y py)) spos.line X.env = pure true := by rfl)
    (S : compScopeOk scope X.env.scope own (capN X caps) = true := by first | rfl | decide +kernel) (hclos : closureFor scope X.env = pure (clO scope X.env) := by rfl) (hs : ∀ x, foldedSetIterable iter X.env x = pure x := by intro _; rfl) :
    PS X (.Assign [.Name y py] (.ListComp elt [⟨tg, iter, ifs, 0⟩] scope pos) spos) (tSetComp i wi g tt te own.length caps) := by
  intro pins s σ H E I h
  rw [exec_Assign_Name_used _ _ _ _ hsw]
  refine wpAny_bind (wpAny_standAt (wpAny_bind ?_))
  show wpAny _ X.A (do let _ ← comprehension (.ListComp elt [⟨tg, iter, ifs, 0⟩] scope pos) scope X.env _ (newList []) false (eval iter X.env) (some (assign (.Name y py) X.env))) _ _ s
  refine wpAny_bind (wpAny_mono (comp_core (use := some (assign (.Name y py) X.env)) (QQ := fun _ s' => SP X pins E .next s') hc (compSc_of S) hclos hi hg ht he hs I h fun D C H' ys s4 m J hD q hn F hL hCl => ?_) (fun _ s' hq => wpAny_pure (wpAny_pure hq)) fun _ _ e => e)
  show wpAny _ X.A (assign (.Name y py) X.env (.ref D)) _ _ s4
  refine wpAny_assign_Name (store_ok2 J hN hy (.inl hk) (v := .ref D) rfl (fun s5 I5 hx => ?_) (.inr hk))
  obtain ⟨a, hsb, ha⟩ := hx
  have hCa : C ≠ a := by
    rcases ha with z | z
    · rw [z]; exact hL
    · exact (hCl y a z).symm
  refine ⟨m, hn.sameBut hsb hCa, fun h' hs' => ?_⟩
  obtain ⟨f0, f1, f2, f3, f4, f5⟩ := F
  exact ⟨_, _, I5.turned (t' := s5.toks) (fun b o hb e => hs'.extBut b o hb e) f0 f1 f3 f4 f5, q D hD⟩
end
/-! ### the rules with K said -/
section
variable {X : Cx} {tg l : Expr} {tl : TE} {pos : Pos}
theorem ixL (K : PySem.W.Frag) (h : X.K = K := by rfl) : IxR X (rIxL K) := h ▸ ix_list
theorem ixT (K : PySem.W.Frag) (h : X.K = K := by rfl) : IxR X (rIxT K) := h ▸ ix_tup
theorem slL (K : PySem.W.Frag) (h : X.K = K := by rfl) : SlR X (rSlL K) := h ▸ sl_list
theorem pgT (K : PySem.W.Frag) {es : List Expr} {k : Nat} {t : TGs} {n : Nat} (hc : X.calm = true) (h : PGs X es t) (hn : (assignEach es X.env).length = n := by rfl) (hst : (assignEach es X.env).findIdx? (·.1) = none := by rfl) (hK : X.K = K := by rfl) : PG X (.Tuple es k pos) (gTup K n t) := hK ▸ pg_tup hc h hn hst
theorem piL (K : PySem.W.Frag) (hl : PE X l tl) (h : X.K = K := by rfl) : PI X tg l (iList K tl) := h ▸ pi_list hl
theorem isiK (K : PySem.W.Frag) (h : X.K = K := by rfl) : CallR X (.builtin "isinstance") (rIsi K) := h ▸ call_isi
theorem lenK (K : PySem.W.Frag) (h : X.K = K := by rfl) : CallR X (.builtin "len") (fun xs H Q => ∃ p ys, xs = [.ref p] ∧ (SqL K H p ys ∨ SqT K H p ys) ∧ Q (.int ys.length) H) := h ▸ call_len_seq
theorem lstK (K : PySem.W.Frag) (h : X.K = K := by rfl) : CallR X (.type "list") (fun xs H Q => ∃ p ys, xs = [.ref p] ∧ (SqL K H p ys ∨ SqT K H p ys) ∧ ∀ l, H l = none → Q (.ref l) (upd H l (.lst ys))) := h ▸ call_list_of
theorem eqK (K : PySem.W.Frag) (hu : X.A.units + 60 < cLine) (h : X.K = K := by rfl) : OpR X (compareOp .Eq) (rEqD K) := h ▸ op_eqD hu
theorem neK (K : PySem.W.Frag) (hu : X.A.units + 60 < cLine) (h : X.K = K := by rfl) : OpR X (compareOp .NotEq) (rNeD K) := h ▸ op_neD hu
theorem hu6 {A : Around} {k : Nat} (hr : Room k A) : A.units + 60 < cLine := Nat.lt_of_le_of_lt (Nat.add_le_add_left (by decide : 60 ≤ 64) _) hr.units
end
/-! ### the forms one uses -/
section
variable {K : PySem.W.Frag} {g : TG} {tt : TT} {te : TE} {σ : St} {H : Hp} {fin : List V → Hp → Prop}
theorem comp_list {a : Addr} {xs : List V} (Pv : Nat → List V → Hp → Prop) (sz : xs.length < sizeLine) (h0 : Pv 0 [] H) (hl : ∀ i ys H, i ≤ xs.length → Pv i ys H → SqL K H a xs ∧ ys.length ≤ i)
    (hs : ∀ i x ys H, xs[i]? = some x → Pv i ys H → g x σ H fun σ2 H2 => Keepσ σ σ2 ∧ tt σ2 H2 fun b H3 => if b = true then te σ2 H3 fun y H4 => Pv (i + 1) (ys ++ [y]) H4 else Pv (i + 1) ys H3) (hd : ∀ ys H, Pv xs.length ys H → fin ys H) :
    tBlock g tt te σ fin (Itl K a) H := by
  refine ⟨fun i m ys H => m = xs.length - i ∧ i ≤ xs.length ∧ Pv i ys H, ⟨xs.length, by simp, Nat.zero_le _, h0⟩, ?_⟩
  rintro i m ys H ⟨rfl, hi, p⟩
  obtain ⟨q, hz⟩ := hl i ys H hi p
  by_cases hlt : i < xs.length
  · refine .inr ⟨⟨xs, xs[i], q, by simp [hlt]⟩, by (clear hi; omega), Pv (i + 1), fun ys' H' p' => ⟨xs.length - (i + 1), by (clear hz hi sz; omega), rfl, hlt, p'⟩, fun x H' y => ?_⟩
    obtain ⟨e, y⟩ := y
    subst e
    exact hs i x ys _ (y xs q) p
  · have e : i = xs.length := by (clear hz sz; omega)
    subst e
    exact .inl ⟨⟨xs, q, Nat.le_refl _⟩, by (clear hlt hi; omega), hd ys H p⟩
theorem comp_range {lo : Int} {n : Nat} (Pv : Nat → List V → Hp → Prop) (sz : n < sizeLine) (h0 : Pv 0 [] H) (hl : ∀ i ys H, i ≤ n → Pv i ys H → ys.length ≤ i)
    (hs : ∀ i ys H, i < n → Pv i ys H → g (.int (lo + i)) σ H fun σ2 H2 => Keepσ σ σ2 ∧ tt σ2 H2 fun b H3 => if b = true then te σ2 H3 fun y H4 => Pv (i + 1) (ys ++ [y]) H4 else Pv (i + 1) ys H3) (hd : ∀ ys H, Pv n ys H → fin ys H) :
    tBlock g tt te σ fin (Itr lo n) H := by
  refine ⟨fun i m ys H => m = n - i ∧ i ≤ n ∧ Pv i ys H, ⟨n, by simp, Nat.zero_le _, h0⟩, ?_⟩
  rintro i m ys H ⟨rfl, hi, p⟩
  have hz := hl i ys H hi p
  by_cases hlt : i < n
  · refine .inr ⟨hlt, by (clear hi; omega), Pv (i + 1), fun ys' H' p' => ⟨n - (i + 1), by (clear hz hi sz; omega), rfl, hlt, p'⟩, fun x H' y => ?_⟩
    obtain ⟨e, y⟩ := y
    subst e y
    exact hs i ys _ hlt p
  · have e : i = n := by (clear hz sz; omega)
    subst e
    exact .inl ⟨Nat.le_refl _, by (clear hlt hi; omega), hd ys H p⟩
end
end L2
set_option Elab.async false
set_option linter.all false
set_option maxRecDepth 100000
set_option maxHeartbeats 4000000
namespace L2
open PySem PySem.Spec PyProof.Rows
open CH
/-! ### a module's pair of ints -/
noncomputable def GlobT (K : PySem.W.Frag) (mg : Str → Option Value) (x : Str) (a b : Int) : Prop :=
  ∃ g, mg x = some (.ref g) ∧ ∃ (o : Obj) (its : Array Value) (n : Nat), K.lookup g = some o ∧ o.cls = .type "tuple" ∧ o.data = .seq its n ∧ its.size ≤ sizeLine ∧ Vals [.int a, .int b] its.toList
noncomputable def tGlobT (K : PySem.W.Frag) (a b : Int) : TE := fun _ H Q => ∀ g, SqT K H g [.int a, .int b] → Q (.ref g) H
theorem pe_globT {X : Cx} {K : PySem.W.Frag} {x : Str} {a b : Int} {pos : Pos} (C : GlobT K X.mg x a b) (hK : X.K = K := by rfl) (hg : Gl X x := by rfl) (hd : (x == ("__debug__" : Str)) = false := by decide) : PE X (.Name x pos) (tGlobT K a b) := by
  subst hK
  intro pins s σ H Q I h
  obtain ⟨g, hm, hk⟩ := C
  exact ld_glob I hg hm ⟨.ref g, H, I, rfl, h g (.inr hk)⟩ hd
/-! ### sums -/
noncomputable def rsum (qs : List Rat) : Rat := qs.foldl (· + ·) 0
theorem foldl_rat (qs : List Rat) (x : Rat) : qs.foldl (· + ·) x = x + rsum qs := by
  induction qs generalizing x with
  | nil => simp [rsum, Rat.add_zero]
  | cons q r ih =>
    show r.foldl (· + ·) (x + q) = x + r.foldl (· + ·) (0 + q)
    rw [ih, ih, Rat.zero_add, Rat.add_assoc]
theorem rsum_nil : rsum [] = 0 := rfl
theorem rsum_cons (q : Rat) (r : List Rat) : rsum (q :: r) = q + rsum r := by
  show r.foldl (· + ·) (0 + q) = _
  rw [foldl_rat, Rat.zero_add]
theorem rsum_append (a b : List Rat) : rsum (a ++ b) = rsum a + rsum b := by
  unfold rsum
  rw [List.foldl_append, foldl_rat b]
  rfl
theorem rsum_one (q : Rat) : rsum [q] = q := by rw [rsum_cons, rsum_nil, Rat.add_zero]
theorem take_snoc {α : Type} {l : List α} {i : Nat} {v : α} (h : l[i]? = some v) : l.take (i + 1) = l.take i ++ [v] := by
  rw [List.take_add_one, h]; rfl
theorem rsum_take {qs : List Rat} {i : Nat} {q : Rat} (h : qs[i]? = some q) : rsum (qs.take (i + 1)) = rsum (qs.take i) + q := by
  rw [take_snoc h, rsum_append, rsum_one]
theorem rsum_mul (x : Rat) (a : List Rat) : rsum (a.map (x * ·)) = x * rsum a := by
  induction a with
  | nil => show rsum [] = _; rw [rsum_nil, Rat.mul_zero]
  | cons q r ih => rw [List.map_cons, rsum_cons, rsum_cons, ih, Rat.mul_add]
theorem Sm0 : Sm 1 0 := ⟨by decide, by decide⟩
theorem Sm_rsum {n : Nat} : ∀ {qs : List Rat}, (∀ q ∈ qs, Sm n q) → Sm ((n + 1) * qs.length + 1) (rsum qs) := by
  intro qs
  induction qs with
  | nil => intro _; exact Sm0.mono (by simp)
  | cons q r ih =>
    intro h
    rw [rsum_cons]
    refine ((h q (by simp)).add (ih fun x hx => h x (List.mem_cons_of_mem _ hx))).mono ?_
    rw [List.length_cons, Nat.mul_succ]; (clear ih; omega)
theorem Sm_take {n : Nat} {qs : List Rat} (h : ∀ q ∈ qs, Sm n q) (i : Nat) (hi : i ≤ qs.length) : Sm ((n + 1) * i + 1) (rsum (qs.take i)) := by
  have := Sm_rsum (n := n) (qs := qs.take i) fun q hq => h q (List.mem_of_mem_take hq)
  rwa [List.length_take, Nat.min_eq_left hi] at this
/-! ### lists of fractions -/
section
variable {K : PySem.W.Frag} {H H' : Hp}
theorem At.fr {q : Rat} {v : V} (h : At K H (frD q) v) : ∃ p, v = .ref p ∧ FracT K H p q := by
  simp only [frD, At, Ats] at h
  obtain ⟨a, xs, e, h1, v1, r1, e1, h2, v2, r2, e2, h3, h4⟩ := h
  subst e1 h2 e2 h3 h4
  exact ⟨a, e, h1⟩
noncomputable def FrL (K : PySem.W.Frag) (H : Hp) (a : Addr) (qs : List Rat) : Prop := ∃ xs, SqL K H a xs ∧ Ats K H (qs.map frD) xs
theorem FrL.same {a : Addr} {qs : List Rat} (h : FrL K H a qs) (s : Same H H') : FrL K H' a qs := by
  obtain ⟨xs, h1, h2⟩ := h
  exact ⟨xs, s.seq h1, h2.same s⟩
theorem Ats.fr {qs : List Rat} {xs : List V} {i : Nat} {x : V} (h : Ats K H (qs.map frD) xs) (hx : xs[i]? = some x) : ∃ q p, qs[i]? = some q ∧ x = .ref p ∧ FracT K H p q := by
  have hl : xs.length = qs.length := by have := h.length; rwa [List.length_map] at this
  have hi : i < qs.length := by rw [← hl]; exact (List.getElem?_eq_some_iff.mp hx).1
  obtain ⟨v, hv, ha⟩ := h.get (i := i) (d := frD qs[i]) (by rw [List.getElem?_map, List.getElem?_eq_getElem hi]; rfl)
  rw [hx] at hv
  cases hv
  obtain ⟨p, e, f⟩ := ha.fr
  exact ⟨qs[i], p, List.getElem?_eq_getElem hi, e, f⟩
theorem Ats.snoc {ds : List Dt} {vs : List V} {d : Dt} {v : V} (h : Ats K H ds vs) (h' : At K H d v) : Ats K H (ds ++ [d]) (vs ++ [v]) := h.append (by simp only [Ats]; exact ⟨v, [], rfl, h', rfl⟩)
theorem Ats.take : ∀ {ds : List Dt} {vs : List V} (n : Nat), Ats K H ds vs → Ats K H (ds.take n) (vs.take n)
  | [], vs, n, h => by simp only [Ats] at h; subst h; simp [Ats]
  | d :: ds, vs, n, h => by
    simp only [Ats] at h
    obtain ⟨v, r, e, h1, h2⟩ := h
    subst e
    cases n with
    | zero => simp [Ats]
    | succ n => simp only [List.take_succ_cons, Ats]; exact ⟨v, _, rfl, h1, h2.take n⟩
theorem Ats.drop : ∀ {ds : List Dt} {vs : List V} (n : Nat), Ats K H ds vs → Ats K H (ds.drop n) (vs.drop n)
  | [], vs, n, h => by simp only [Ats] at h; subst h; simp [Ats]
  | d :: ds, vs, n, h => by
    cases n with
    | zero => exact h
    | succ n =>
      simp only [Ats] at h
      obtain ⟨v, r, e, h1, h2⟩ := h
      subst e
      exact h2.drop n
theorem FrL.new {p : Addr} {qs : List Rat} {xs : List V} (hp : H p = none) (h : Ats K H (qs.map frD) xs) : FrL K (upd H p (.lst xs)) p qs := ⟨xs, sqL_new, h.same (same_new hp _)⟩
/-- behind a list's change -/
theorem SqT.updL {l p : Addr} {xs ys zs : List V} (hl : H l = some (.lst xs)) (h : SqT K H p ys) : SqT K (upd H l (.lst zs)) p ys := by
  rcases h with (h | ⟨o, h⟩) | h
  · exact .inl (.inl (by rw [upd_ne (ne_of h hl (by intro z; cases z))]; exact h))
  · exact .inl (.inr ⟨o, by rw [upd_ne (ne_of h hl (by intro z; cases z))]; exact h⟩)
  · exact .inr h
theorem At.frUpd {l : Addr} {xs zs : List V} {q : Rat} {v : V} (hl : H l = some (.lst xs)) (h : At K H (frD q) v) : At K (upd H l (.lst zs)) (frD q) v := by
  obtain ⟨p, rfl, f⟩ := h.fr
  exact FracT.at (SqT.updL hl f)
theorem Ats.frUpd {l : Addr} {xs zs : List V} (hl : H l = some (.lst xs)) : ∀ {qs : List Rat} {vs : List V}, Ats K H (qs.map frD) vs → Ats K (upd H l (.lst zs)) (qs.map frD) vs
  | [], vs, h => by simpa [Ats] using h
  | q :: qs, vs, h => by
    simp only [List.map_cons, Ats] at h ⊢
    obtain ⟨v, r, e, h1, h2⟩ := h
    exact ⟨v, r, e, h1.frUpd hl, h2.frUpd hl⟩
theorem len1 {α : Type} {ys : List α} {i : Nat} {y : α} (h : ys.length = i) : (ys ++ [y]).length = i + 1 := by rw [List.length_append, h]; rfl
end
end L2
set_option Elab.async false
set_option linter.all false
set_option maxRecDepth 100000
set_option maxHeartbeats 4000000
namespace L2
open PySem PySem.Spec PyProof.Rows
open CH
/-! ### slices by bounds from 0 on -/
theorem sIx_pos {n d : Nat} {c : Int} (h : 0 ≤ c) : HT.sIx n d (some c) = min c.toNat n := by
  simp only [HT.sIx]
  rw [if_neg (by omega)]
theorem cutV_to {xs : List V} {c : Int} (h : 0 ≤ c) : cutV xs none (some c) = xs.take c.toNat := by
  show (xs.drop (HT.sIx xs.length 0 none)).take (HT.sIx xs.length xs.length (some c) - HT.sIx xs.length 0 none) = _
  have e : HT.sIx xs.length 0 none = 0 := by simp [HT.sIx]
  rw [e, sIx_pos h, List.drop_zero, Nat.sub_zero, List.take_eq_take_min (i := c.toNat)]
theorem cutV_from {xs : List V} {c : Int} (h : 0 ≤ c) : cutV xs (some c) none = xs.drop c.toNat := by
  show (xs.drop (HT.sIx xs.length 0 (some c))).take (HT.sIx xs.length xs.length none - HT.sIx xs.length 0 (some c)) = _
  have e : HT.sIx xs.length xs.length none = xs.length := by simp [HT.sIx]
  rw [e, sIx_pos h, List.take_of_length_le (by rw [List.length_drop]; (clear e h; omega))]
  by_cases hc : c.toNat ≤ xs.length
  · rw [Nat.min_eq_left hc]
  · rw [Nat.min_eq_right (by (clear e h; omega)), List.drop_length, List.drop_eq_nil_of_le (by (clear e h; omega))]
theorem rat_lt (q r : Rat) : decide (q.num * ((r.den : Nat) : Int) < r.num * ((q.den : Nat) : Int)) = decide (q < r) := by
  rw [decide_eq_decide, Rat.lt_iff]
/-! ### xs[::-1] -/
noncomputable def tRev (K : PySem.W.Frag) (te ts : TE) : TE := fun σ H Q => te σ H fun x H1 => ts σ H1 fun y H2 => y = .int (-1) ∧ ∃ a xs, x = .ref a ∧ SqL K H2 a xs ∧ ∀ p, H2 p = none → Q (.ref p) (upd H2 p (.lst xs.reverse))
section
variable {X : Cx} {e st : Expr} {te ts : TE} {pos p2 : Pos}
/-! ### sum, all, any of a list -/
theorem valsI : ∀ {ns : List Int} {its : List Value}, Vals (ns.map V.int) its → ∃ ts : List (Int × Tok), its = ts.map (fun p => Value.int p.1 p.2) ∧ ts.map (·.1) = ns
  | [], its, h => by cases h; exact ⟨[], rfl, rfl⟩
  | n :: ns, its, h => by
    cases h with
    | cons r t =>
      obtain ⟨tk, rfl⟩ := r
      obtain ⟨ts, rfl, e⟩ := valsI t
      exact ⟨(n, tk) :: ts, rfl, by rw [List.map_cons, e]⟩
theorem call_sum (K : PySem.W.Frag) (hc : X.calm = true) (hK : X.K = K := by rfl) : CallR X (.builtin "sum") (fun xs H Q => ∃ (a : Addr) (ns : List Int), xs = [.ref a] ∧ SqL K H a (ns.map V.int) ∧ Q (.int ns.sum) H) := by
  subst hK
  intro pins s σ H xs us Q I r h
  obtain ⟨a, ns, rfl, hS, q⟩ := h
  obtain ⟨u, rfl, ru⟩ := vals1 r
  cases ru
  obtain ⟨its, rv, p, hz⟩ := I.list hS
  obtain ⟨ts, rfl, e⟩ := valsI rv
  have hl : s.heap.IsList a (intItems ts.toArray) := by
    have := p.isList
    simpa [intItems] using this
  refine sum_intListG (I.ok.hd hc) hl fun h' tk t' hk => ⟨.int ns.sum, H, I.kept (t' := tk) hk, ⟨t', ?_⟩, q⟩
  rw [preSum_eq, List.take_of_length_le (by simp)]
  simp only [List.toList_toArray, e]
theorem vals_bools : ∀ {bs : List Bool} {its : List Value}, Vals (bs.map V.bl) its → its = bs.map Value.bool
  | [], its, h => by cases h; rfl
  | b :: bs, its, h => by
    cases h with
    | cons r t => cases r; rw [vals_bools t]; rfl
end
/-! ### ways -/
noncomputable def wD (w : Int × Rat) : Dt := .tup [.int w.1, frD w.2]
section
variable {K : PySem.W.Frag} {H H' : Hp}
theorem At.way {w : Int × Rat} {v : V} (h : At K H (wD w) v) : ∃ p c, v = .ref p ∧ SqT K H p [.int w.1, .ref c] ∧ FracT K H c w.2 := by
  simp only [wD, At, Ats] at h
  obtain ⟨a, xs, e, h1, v1, r1, e1, h2, v2, r2, e2, h3, h4⟩ := h
  obtain ⟨c, rfl, f⟩ := h3.fr
  subst e1 h2 e2 h4
  exact ⟨a, c, e, h1, f⟩
theorem way_at {p c : Addr} {i : Int} {q : Rat} (h : SqT K H p [.int i, .ref c]) (f : FracT K H c q) : At K H (wD (i, q)) (.ref p) := by
  simp only [wD, At, Ats]
  exact ⟨p, _, rfl, h, _, _, rfl, rfl, _, _, rfl, FracT.at f, rfl⟩
theorem Ats.gets {α : Type} {f : α → Dt} {ws : List α} {xs : List V} {i : Nat} {x : V} (h : Ats K H (ws.map f) xs) (hx : xs[i]? = some x) : ∃ w, ws[i]? = some w ∧ At K H (f w) x := by
  have hl : xs.length = ws.length := by have := h.length; rwa [List.length_map] at this
  have hi : i < ws.length := by rw [← hl]; exact (List.getElem?_eq_some_iff.mp hx).1
  obtain ⟨v, hv, ha⟩ := h.get (i := i) (d := f ws[i]) (by rw [List.getElem?_map, List.getElem?_eq_getElem hi]; rfl)
  rw [hx] at hv
  cases hv
  exact ⟨ws[i], List.getElem?_eq_getElem hi, ha⟩
theorem Ats.way {ws : List (Int × Rat)} {xs : List V} {i : Nat} {x : V} (h : Ats K H (ws.map wD) xs) (hx : xs[i]? = some x) : ∃ w p c, ws[i]? = some w ∧ x = .ref p ∧ SqT K H p [.int w.1, .ref c] ∧ FracT K H c w.2 := by
  obtain ⟨w, hw, ha⟩ := h.gets hx
  obtain ⟨p, c, e, h1, h2⟩ := ha.way
  exact ⟨w, p, c, hw, e, h1, h2⟩
theorem Ats.len {α : Type} {f : α → Dt} {ws : List α} {xs : List V} (h : Ats K H (ws.map f) xs) : xs.length = ws.length := by have := h.length; rwa [List.length_map] at this
/-- an item of a list of data, by its place -/
theorem Ats.item {α : Type} {f : α → Dt} {ws : List α} {xs : List V} {k : Int} (h : Ats K H (ws.map f) xs) (h0 : 0 ≤ k) (h1 : k < (ws.length : Int)) : ∃ w v, ws[k.toNat]? = some w ∧ atI xs k = some v ∧ At K H (f w) v := by
  obtain ⟨j, rfl⟩ : ∃ j : Nat, k = (j : Int) := ⟨k.toNat, by (clear h1; omega)⟩
  have hj : j < xs.length := by rw [h.len]; (clear h0; omega)
  obtain ⟨w, hw, ha⟩ := h.gets (i := j) (List.getElem?_eq_getElem hj)
  exact ⟨w, xs[j], by simpa using hw, atI_nat (List.getElem?_eq_getElem hj), ha⟩
end
mutual
theorem cmpD_self : ∀ d : Dt, cmpD d d = true
  | .int _ => rfl
  | .bl _ => rfl
  | .non => rfl
  | .tup xs => by simp only [cmpD]; exact cmpDs_self xs
  | .lst xs => by simp only [cmpD]; exact cmpDs_self xs
theorem cmpDs_self : ∀ d : List Dt, cmpDs d d = true
  | [] => by simp [cmpDs]
  | x :: xs => by simp only [cmpDs, cmpD_self x, cmpDs_self xs, Bool.and_self]
end
theorem dpDs_map {α : Type} {f : α → Dt} {n : Nat} (h : ∀ a, dpD (f a) ≤ n) : ∀ l : List α, dpDs (l.map f) ≤ n
  | [] => by simp [dpDs]
  | a :: l => by
    have := dpDs_map h l
    have := h a
    simp only [List.map_cons, dpDs]; omega
theorem dpD_way (w : Int × Rat) : dpD (wD w) = 2 := rfl
/-! ### lists of ints from 0 on -/
theorem isum {M : Int} : ∀ {l : List Int}, (∀ x ∈ l, 0 ≤ x ∧ x ≤ M) → 0 ≤ l.sum ∧ l.sum ≤ (l.length : Int) * M
  | [], _ => by simp
  | x :: l, h => by
    have h1 := h x (by simp)
    have h2 := isum (M := M) (l := l) fun y hy => h y (List.mem_cons_of_mem _ hy)
    rw [List.sum_cons, List.length_cons]
    have e : ((l.length + 1 : Nat) : Int) * M = (l.length : Int) * M + M := by rw [Int.natCast_add, Int.add_mul]; (clear h2 h1; omega)
    rw [e]
    omega
/-! ### the divisor of a sum's top and bottom -/
theorem gcd_plus {a b c d : Int} (hab : Int.gcd a b = 1) : ((Int.gcd (a * d + c * b) (b * d) : Nat) : Int) ∣ d * d := by
  generalize hg : ((Int.gcd (a * d + c * b) (b * d) : Nat) : Int) = g
  have h1 : g ∣ a * d + c * b := by rw [← hg]; exact Int.gcd_dvd_left ..
  have h2 : g ∣ b * d := by rw [← hg]; exact Int.gcd_dvd_right ..
  have h3 : g ∣ a * (d * d) := by
    have e : a * (d * d) = d * (a * d + c * b) - c * (b * d) := by grind
    rw [e]
    exact Int.dvd_sub (Int.dvd_mul_of_dvd_right h1) (Int.dvd_mul_of_dvd_right h2)
  have h4 : g ∣ b * (d * d) := by
    have e : b * (d * d) = d * (b * d) := by grind
    rw [e]
    exact Int.dvd_mul_of_dvd_right h2
  have h5 : g ∣ ((Int.gcd (a * (d * d)) (b * (d * d)) : Nat) : Int) := Int.dvd_coe_gcd h3 h4
  rw [Int.gcd_mul_right, hab, Nat.one_mul] at h5
  exact Int.dvd_natAbs.mp h5
theorem gcd_one_rat (q : Rat) : Int.gcd q.num ((q.den : Nat) : Int) = 1 := by
  have h := q.reduced
  unfold Nat.Coprime at h
  rw [Int.gcd_eq_natAbs_gcd_natAbs, Int.natAbs_natCast]; exact h
theorem bits_sgcd_plus {q r : Rat} {n : Nat} (h : bits ((r.den : Nat) : Int) ≤ n) : bits (sgcd (q.num * r.den + r.num * q.den) (q.den * r.den)) ≤ n + n := by
  have h1 := gcd_plus (a := q.num) (b := ((q.den : Nat) : Int)) (c := r.num) (d := ((r.den : Nat) : Int)) (gcd_one_rat q)
  have hd : ((r.den : Nat) : Int) * ((r.den : Nat) : Int) ≠ 0 := CH.mul_ne (den_ne r) (den_ne r)
  refine bits_of_abs (y := ((r.den : Nat) : Int) * ((r.den : Nat) : Int)) ?_ (CH.bits_mul h h)
  have h2 : (sgcd (q.num * r.den + r.num * q.den) (q.den * r.den)).natAbs = Int.gcd (q.num * r.den + r.num * q.den) (q.den * r.den) := by
    unfold sgcd; split <;> (clear hd h1 h; omega)
  rw [h2]
  have h3 := Int.natAbs_dvd_natAbs.mpr h1
  rw [Int.natAbs_natCast] at h3
  exact Nat.le_of_dvd (by (clear h3 h2 h1 h; omega)) h3
end L2
set_option Elab.async false
set_option linter.all false
set_option maxRecDepth 100000
set_option maxHeartbeats 4000000
namespace L2
open PySem PySem.Spec PyProof.Rows
open CH
/-! ### an iterator that yields a new tuple -/
theorem Inv.yield {X : Cx} {pins : List (Addr × Obj)} {σ : St} {H : Hp} {s : Shared} {h' : Heap} {t' : Nat} {ch : List Addr} {T : Addr} {o : HO} (I : Inv X pins σ H s) (hch : ∀ b ∈ ch, FpOk X pins H b)
    (k : ∀ b ob, b ∉ ch → s.heap.get? b = some ob → h'.get? b = some ob) (hT : s.heap.objs.size ≤ T) (new : ObjOk X.prog X.w (upd H T o) h' T o) : Inv X pins σ (upd H T o) { s with heap := h', toks := t' } := by
  have hn : H T = none := I.hok.fresh hT
  have nT : ∀ b u, H b = some u → b ≠ T := fun b u e => ne_of_none e hn
  have nch : ∀ b u, H b = some u → b ∉ ch := fun b u e z => by have := (hch b z).1; rw [e] at this; cases this
  refine I.step (g' := s.gens) (d' := s.drawn) (ch := ch) (fun b hb => ?_) (fun b ob _ _ hc e _ => k b ob hc e) (fun b ob _ _ hc e _ => ⟨ob.slots, k b ob hc e⟩) (fun b ob _ e n => ?_) (fun b ob hc e => ⟨ob, k b ob hc e⟩)
    (fun b xs e => by rw [upd_ne (nT b _ e)]; exact e) (fun b ob u e => by rw [upd_ne (nT b _ e)]; exact e) (fun b ps e => ⟨#[], by rw [upd_ne (nT b _ e), e]; simp⟩) (fun m hm => ?_) (fun b u e => ?_) I.bare
  · obtain ⟨f0, f1, f2, f3, f4, f5⟩ := hch b hb
    exact ⟨f3, f1, f4, f5⟩
  · rw [upd_ne (Nat.ne_of_lt (Nat.lt_of_lt_of_le (Heap.lt_size e) hT))]; exact n
  · obtain ⟨ob, es, ep, ho, r⟩ := hm
    exact ⟨ob, es, ep, k _ ob (fun z => (hch _ z).2.1 rfl) ho, r⟩
  · by_cases hb : b = T
    · subst hb; rw [upd_same] at e; cases e; exact new
    · rw [upd_ne hb] at e
      refine (I.hok b u e).stay (fun c v hc q => k c v ?_ q) (fun c q => by rw [upd_ne (nT c _ q)]; exact q) fun c xs q => by rw [upd_ne (nT c _ q)]; exact q
      rcases hc with z | z
      · rw [z]; exact nch b u e
      · exact nch c _ z
/-! ### enumerate -/
noncomputable def Ite (K : PySem.W.Frag) (a : Addr) : It :=
  ⟨fun i H => ∃ xs x, SqL K H a xs ∧ xs[i]? = some x, fun i H v H' => ∃ t x, v = .ref t ∧ H t = none ∧ H' = upd H t (.tup [.int i, x]) ∧ ∀ xs, SqL K H a xs → xs[i]? = some x, fun i H => ∃ xs, SqL K H a xs ∧ xs.length ≤ i⟩
noncomputable def iEnum (K : PySem.W.Frag) (ta : TA) : TI := fun σ H R => ta σ H fun vs H1 => ∃ a xs, vs = [.ref a] ∧ SqL K H1 a xs ∧ R (Ite K a) H1
/-! ### zip of two lists -/
noncomputable def Itz (K : PySem.W.Frag) (a b : Addr) : It :=
  ⟨fun i H => ∃ xs ys x y, SqL K H a xs ∧ SqL K H b ys ∧ xs[i]? = some x ∧ ys[i]? = some y, fun i H v H' => ∃ t x y, v = .ref t ∧ H t = none ∧ H' = upd H t (.tup [x, y]) ∧ (∀ xs, SqL K H a xs → xs[i]? = some x) ∧ ∀ ys, SqL K H b ys → ys[i]? = some y,
    fun i H => ∃ xs ys, SqL K H a xs ∧ SqL K H b ys ∧ (xs.length ≤ i ∨ ys.length ≤ i)⟩
theorem turn_zip {P : Program} {w : World} {K : PySem.W.Frag} {elts : List Expr} {x1 : Nat} {tp : Pos} (a b z TI TO i1 i2 : Addr) (D : ZipApart z TI TO i1 i2 a b) : Turn P w K (.Tuple elts x1 tp) (Itz K a b) [z, TI, TO, i1, i2] z
    (fun i h => IsZip h z TI TO .none ∧ IsPair h TI (.ref i1) (.ref i2) ∧ (∃ u v, IsPair h TO u v) ∧ h.IsListIter i1 a i ∧ h.IsListIter i2 b i) where
  mem := by simp
  obj := fun i h st c hc => by
    obtain ⟨h1, h2, ⟨u, v, h3⟩, ⟨o4, h4, _, d4⟩, ⟨o5, h5, _, d5⟩⟩ := st
    simp only [List.mem_cons, List.not_mem_nil, or_false] at hc
    rcases hc with e | e | e | e | e
    · subst e; exact ⟨_, h1, fun v z => by have z' : Data.fields _ = Data.cell v := z; cases z'⟩
    · subst e; exact ⟨_, h2, fun v z => by have z' : Data.seq _ _ = Data.cell v := z; cases z'⟩
    · subst e; exact ⟨_, h3, fun v z => by have z' : Data.seq _ _ = Data.cell v := z; cases z'⟩
    · subst e; exact ⟨o4, h4, fun v z => by rw [d4] at z; cases z⟩
    · subst e; exact ⟨o5, h5, fun v z => by rw [d5] at z; cases z⟩
  keep := fun i h h' st k => by
    obtain ⟨h1, h2, ⟨u, v, h3⟩, h4, h5⟩ := st
    exact ⟨k z (by simp) _ h1, k TI (by simp) _ h2, ⟨u, v, k TO (by simp) _ h3⟩, h4.at fun o e => k i1 (by simp) o e, h5.at fun o e => k i2 (by simp) o e⟩
  item := by
    intro X hP hw hK hc i pins s σ H E I hf st hg
    subst hP hw hK
    obtain ⟨xs, ys, x, y, hqx, hqy, hx, hy⟩ := hg
    obtain ⟨its, rv, p, hz⟩ := I.list hqx
    obtain ⟨u, hu, ru⟩ := rv.get hx
    obtain ⟨its2, rv2, p2, hz2⟩ := I.list hqy
    obtain ⟨u2, hu2, ru2⟩ := rv2.get hy
    obtain ⟨h1, h2, ⟨v1, v2, h3⟩, h4, h5⟩ := st
    refine wpAny_pyNext_zip_item D h1 h2 h3 h4 h5 p.isList p2.isList (x := u) (y := u2) (by simpa using hu) (by simpa using hu2) fun h' a1 a2 a3 a4 a5 a6 hk => ?_
    refine ⟨_, rfl, wpAny_letOwnedTupleGo_zip a1 fun h₂ hz' hs' => ?_⟩
    replace hs' : Heap.SameBut z h' h₂ := hs'
    have hTz : s.heap.objs.size ≠ z := Nat.ne_of_gt (Heap.lt_size h1)
    have hT2 : h₂.get? s.heap.objs.size = some { cls := .type "tuple", data := .seq #[u, u2] } := (hs'.2 _ hTz).trans a5
    have I2 : Inv X pins σ (upd H s.heap.objs.size (.tup [x, y])) { s with heap := h₂ } := by
      refine I.yield (t' := s.toks) (ch := [z, TI, TO, i1, i2]) hf (fun c ob hcc q => ?_) (Nat.le_refl _) ⟨by show 2 ≤ sizeLine; decide, [u, u2], .cons ru (.cons ru2 .nil), _, hT2, rfl, _, rfl⟩
      have c1 : c ≠ z := fun e => hcc (by simp [e])
      have c2 : c ≠ TO := fun e => hcc (by simp [e])
      have c3 : c ≠ i1 := fun e => hcc (by simp [e])
      have c4 : c ≠ i2 := fun e => hcc (by simp [e])
      exact hs'.extBut c ob c1 (hk c ob c1 c2 c3 c4 q)
    refine ⟨.ref s.heap.objs.size, _, I2, rfl, ⟨s.heap.objs.size, x, y, rfl, I.hok.fresh (Nat.le_refl _), rfl, fun zs hz => by rw [I.list_inj hz hqx]; exact hx, fun zs hz => by rw [I.list_inj hz hqy]; exact hy⟩, ?_, fun c hcc => ?_⟩
    · exact ⟨hz', hs'.extBut _ _ D.TIz (hk _ _ D.TIz D.TITO D.TIi1 D.TIi2 h2), ⟨_, _, hs'.extBut _ _ D.TOz a2⟩, a3.extBut hs'.extBut D.i1z, a4.extBut hs'.extBut D.i2z⟩
    · have : c < s.heap.objs.size := by
        have hobj : ∃ o, s.heap.get? c = some o := by
          obtain ⟨o4, e4, _⟩ := h4
          obtain ⟨o5, e5, _⟩ := h5
          simp only [List.mem_cons, List.not_mem_nil, or_false] at hcc
          rcases hcc with e | e | e | e | e
          · subst e; exact ⟨_, h1⟩
          · subst e; exact ⟨_, h2⟩
          · subst e; exact ⟨_, h3⟩
          · subst e; exact ⟨_, e4⟩
          · subst e; exact ⟨_, e5⟩
        obtain ⟨o, ho⟩ := hobj
        exact Heap.lt_size ho
      rw [upd_ne (Nat.ne_of_lt this)]; exact (hf c hcc).1
  done := by
    intro X hP hw hK hc i pins s σ H E I hf st hg
    subst hP hw hK
    obtain ⟨xs, ys, hqx, hqy, hx⟩ := hg
    obtain ⟨its, rv, p, hz⟩ := I.list hqx
    obtain ⟨its2, rv2, p2, hz2⟩ := I.list hqy
    obtain ⟨h1, h2, ⟨v1, v2, h3⟩, h4, h5⟩ := st
    have hl := rv.length
    have hl2 := rv2.length
    refine wpAny_pyNext_zip_end (I.ok.hd hc) D h1 h2 h3 h4 h5 p.isList p2.isList ?_ fun h' hk => ⟨rfl, ?_⟩
    · rcases hx with e | e
      · exact .inl (by simp; (clear hl2 h3 h2 h1 hz2 hz hc; omega))
      · exact .inr (by simp; (clear hl h3 h2 h1 hz2 hz hc; omega))
    · refine I.call (g' := s.gens) (t' := s.toks) (d' := s.drawn) (ch := [z, TI, TO, i1, i2]) (H' := H) ⟨fun c o q n _ hcc => hk c o (fun e => hcc (by simp [e])) (fun e => hcc (by simp [e])) (fun e => hcc (by simp [e])) (fun e => hcc (by simp [e])) q, fun c o q n _ hcc => ⟨o.slots, hk c o (fun e => hcc (by simp [e])) (fun e => hcc (by simp [e])) (fun e => hcc (by simp [e])) (fun e => hcc (by simp [e])) q⟩, fun _ _ _ n _ => n, fun c o q hcc => ⟨o, hk c o (fun e => hcc (by simp [e])) (fun e => hcc (by simp [e])) (fun e => hcc (by simp [e])) (fun e => hcc (by simp [e])) q⟩, fun _ _ q => q, fun _ _ _ q => q, fun _ ps q => ⟨#[], by rw [q]; simp⟩⟩ (fun c u e => ?_) I.bare (fun c hcc => ?_)
      · refine (I.hok c u e).stay (fun d v hd q => ?_) (fun _ q => q) fun _ _ q => q
        have hHd : H d ≠ none := by
          rcases hd with r | r
          · rw [r, e]; intro z; cases z
          · rw [r]; intro z; cases z
        have nm : ∀ f ∈ [z, TI, TO, i1, i2], d ≠ f := fun f hf' r => hHd (by rw [r]; exact (hf f hf').1)
        exact hk d v (nm z (by simp)) (nm TO (by simp)) (nm i1 (by simp)) (nm i2 (by simp)) q
      · obtain ⟨f0, f1, f2, f3, f4, f5⟩ := hf c hcc
        exact ⟨f3, f1, f4, f5⟩
  self := fun _ _ _ _ _ st h => wpAny_pyIter_zip st.1 h
noncomputable def iZip (K : PySem.W.Frag) (ta : TA) : TI := fun σ H R => ta σ H fun vs H1 => ∃ a b xs ys, vs = [.ref a, .ref b] ∧ SqL K H1 a xs ∧ SqL K H1 b ys ∧ R (Itz K a b) H1
theorem pi_zip (K : PySem.W.Frag) {X : Cx} {elts : List Expr} {x1 : Nat} {tp : Pos} {a b : Expr} {ta : TA} {p pos : Pos} (hg : Gl X "zip") (hm : X.mg "zip" = none) (ha : PA X [a, b] ta) (hs : starEach [a, b] X.env = [(false, eval a X.env), (false, eval b X.env)] := by rfl) (hs2 : starEach [b] X.env = [(false, eval b X.env)] := by rfl) (hK : X.K = K := by rfl) :
    PI X (.Tuple elts x1 tp) (.Call (.Name "zip" p) [a, b] [] pos) (iZip K ta) := by
  subst hK
  intro pins s σ H R I h
  refine Call_ (ld_blt I hg hm boot_zip (PyProof.Rows.callWith_type1 (thn (ha pos pins s σ H _ I h) fun us s1 ⟨vs, H1, I1, r1, q1⟩ => ?_) (by rw [hs, hs2]) (by rw [hs2]; rfl)))
  obtain ⟨l1, l2, xs, ys, e, hq1, hq2, q⟩ := q1
  subst e
  cases r1 with
  | cons r rr =>
    cases rr with
    | cons r' rr =>
      cases rr
      cases r
      cases r'
      obtain ⟨its, rv, pl, hz⟩ := I1.list hq1
      obtain ⟨its2, rv2, pl2, hz2⟩ := I1.list hq2
      have lt1 : l1 < s1.heap.objs.size := by obtain ⟨o, _, e, _⟩ := pl; exact Heap.lt_size e
      have lt2 : l2 < s1.heap.objs.size := by obtain ⟨o, _, e, _⟩ := pl2; exact Heap.lt_size e
      refine call_zip_2 pl.isList pl2.isList fun h' h1 h2 h3 h4 h5 hsz hk => ?_
      refine wpAny_pyIter_zip h1 ?_
      have I2 : Inv X pins σ H1 { s1 with heap := h' } := I1.kept (t' := s1.toks) hk
      generalize hn : s1.heap.objs.size = n at h1 h2 h3 h4 h5 lt1 lt2 hsz
      have D : ZipApart (n + 4) (n + 2) (n + 3) n (n + 1) l1 l2 := by
        have lt1' : @LT.lt Nat instLTNat l1 n := lt1
        have lt2' : @LT.lt Nat instLTNat l2 n := lt2
        constructor <;> (intro e; have e' := @id (@Eq Nat _ _) e; (clear e lt2 lt1 h3 h2 h1 hn hz2 hz hs2 hs hm; omega))
      refine ⟨n + 4, [n + 4, n + 2, n + 3, n, n + 1], _, _, H1, rfl, I2, turn_zip l1 l2 _ _ _ _ _ D, ⟨h1, h2, ⟨_, _, h3⟩, h4, h5⟩, fun c hc => ?_, q⟩
      have hc' : s1.heap.objs.size ≤ c := by
        simp only [List.mem_cons, List.not_mem_nil, or_false] at hc
        rw [hn]
        rcases hc with e | e | e | e | e <;> (rw [e]; show @LE.le Nat _ _ _; (clear e hsz lt2 lt1 h3 h2 h1 hn hz2 hz hs2 hs hm; omega))
      exact I1.fpOk hc' (I1.hok.fresh hc')
/-! ### the forms one uses -/
section
variable {K : PySem.W.Frag} {g : TG} {tt : TT} {te : TE} {tb : TS} {σ : St} {H : Hp} {fin : List V → Hp → Prop} {D : Ends}
theorem comp_zip {a b : Addr} {xs zs : List V} (Pv : Nat → List V → Hp → Prop) (hlen : xs.length = zs.length) (sz : xs.length < sizeLine) (h0 : Pv 0 [] H) (hl : ∀ i ys H, i ≤ xs.length → Pv i ys H → SqL K H a xs ∧ SqL K H b zs ∧ ys.length ≤ i)
    (hs : ∀ i x z ys H t, xs[i]? = some x → zs[i]? = some z → Pv i ys H → H t = none → g (.ref t) σ (upd H t (.tup [x, z])) fun σ2 H2 => Keepσ σ σ2 ∧ tt σ2 H2 fun b H3 => if b = true then te σ2 H3 fun y H4 => Pv (i + 1) (ys ++ [y]) H4 else Pv (i + 1) ys H3) (hd : ∀ ys H, Pv xs.length ys H → fin ys H) :
    tBlock g tt te σ fin (Itz K a b) H := by
  refine ⟨fun i m ys H => m = xs.length - i ∧ i ≤ xs.length ∧ Pv i ys H, ⟨xs.length, by simp, Nat.zero_le _, h0⟩, ?_⟩
  rintro i m ys H ⟨rfl, hi, p⟩
  obtain ⟨q, q2, hz⟩ := hl i ys H hi p
  by_cases hlt : i < xs.length
  · refine .inr ⟨⟨xs, zs, xs[i], zs[i], q, q2, by simp [hlt], by simp [← hlen, hlt]⟩, by (clear hi; omega), Pv (i + 1), fun ys' H' p' => ⟨xs.length - (i + 1), by (clear hz hi sz; omega), rfl, hlt, p'⟩, fun v H' y => ?_⟩
    obtain ⟨t, x, z, e, ht, e2, y1, y2⟩ := y
    subst e e2
    exact hs i x z ys _ t (y1 xs q) (y2 zs q2) p ht
  · have e : i = xs.length := by (clear hz sz; omega)
    subst e
    exact .inl ⟨⟨xs, zs, q, q2, .inl (Nat.le_refl _)⟩, by (clear hlt hi; omega), hd ys H p⟩
theorem for_zip {a b : Addr} {xs zs : List V} (Pv : Nat → St → Hp → Prop) (hlen : xs.length = zs.length) (h0 : Pv 0 σ H) (hl : ∀ i σ H, i ≤ xs.length → Pv i σ H → SqL K H a xs ∧ SqL K H b zs)
    (hs : ∀ i x z σ H t, xs[i]? = some x → zs[i]? = some z → Pv i σ H → H t = none → g (.ref t) σ (upd H t (.tup [x, z])) fun σ2 H2 => tb { D with nx := Pv (i + 1), ct := Pv (i + 1), bk := D.nx } σ2 H2) (hd : ∀ σ H, Pv xs.length σ H → D.nx σ H) :
    ∃ W : Nat → Nat → St → Hp → Prop, (∃ m, W 0 m σ H) ∧ ∀ i m σ H, W i m σ H →
      ((Itz K a b).stop i H ∧ D.nx σ H) ∨ ((Itz K a b).go i H ∧ ∃ N : St → Hp → Prop, (∀ σ' H', N σ' H' → ∃ m', m' < m ∧ W (i + 1) m' σ' H') ∧ ∀ x H', (Itz K a b).yld i H x H' → g x σ H' fun σ2 H2 => tb { D with nx := N, ct := N, bk := D.nx } σ2 H2) := by
  refine ⟨fun i m σ H => m = xs.length - i ∧ i ≤ xs.length ∧ Pv i σ H, ⟨xs.length, by simp, Nat.zero_le _, h0⟩, ?_⟩
  rintro i m σ H ⟨rfl, hi, p⟩
  obtain ⟨q, q2⟩ := hl i σ H hi p
  by_cases hlt : i < xs.length
  · refine .inr ⟨⟨xs, zs, xs[i], zs[i], q, q2, by simp [hlt], by simp [← hlen, hlt]⟩, Pv (i + 1), fun σ' H' p' => ⟨xs.length - (i + 1), by (clear hi; omega), rfl, hlt, p'⟩, fun v H' y => ?_⟩
    obtain ⟨t, x, z, e, ht, e2, y1, y2⟩ := y
    subst e e2
    exact hs i x z σ _ t (y1 xs q) (y2 zs q2) p ht
  · have e : i = xs.length := by omega
    subst e
    exact .inl ⟨⟨xs, zs, q, q2, .inl (Nat.le_refl _)⟩, hd σ H p⟩
end
/-! ### all, any of a list of truths; list(range(n)) -/
section
variable {X : Cx}
theorem truth_bools {prog : Program} {w : World} {A : Around} {bs : List Bool} : TruthOf prog w A (fun i v => (bs.map Value.bool).toArray[i]? = some v) (fun i => bs.getD i false) := by
  intro i v s Q E h hQ
  simp only [List.getElem?_toArray, List.getElem?_map] at h
  cases e : bs[i]? with
  | none => rw [e] at h; cases h
  | some b =>
    rw [e] at h
    cases h
    have e2 : bs.getD i false = b := by rw [List.getD_eq_getElem?_getD, e]; rfl
    have hQ' : Q (bs.getD i false) s := hQ
    rw [e2] at hQ'
    exact wpAny_truthy_bool hQ'
theorem range_all (bs : List Bool) : (List.range bs.length).all (fun i => bs.getD i false) = bs.all id := by
  induction bs with
  | nil => rfl
  | cons b bs ih =>
    rw [List.length_cons, List.range_succ_eq_map, List.all_cons, List.all_map, List.all_cons, ← ih]
    rfl
theorem range_any (bs : List Bool) : (List.range bs.length).any (fun i => bs.getD i false) = bs.any id := by
  induction bs with
  | nil => rfl
  | cons b bs ih =>
    rw [List.length_cons, List.range_succ_eq_map, List.any_cons, List.any_map, List.any_cons, ← ih]
    rfl
theorem call_all (K : PySem.W.Frag) (hc : X.calm = true) (hK : X.K = K := by rfl) : CallR X (.builtin "all") (fun xs H Q => ∃ (a : Addr) (bs : List Bool), xs = [.ref a] ∧ SqL K H a (bs.map V.bl) ∧ Q (.bl (bs.all id)) H) := by
  subst hK
  intro pins s σ H xs us Q I r h
  obtain ⟨a, bs, rfl, hS, q⟩ := h
  obtain ⟨u, rfl, ru⟩ := vals1 r
  cases ru
  obtain ⟨its, rv, p, hz⟩ := I.list hS
  have e := vals_bools rv
  subst e
  have hlt : a < s.heap.objs.size := by obtain ⟨o, _, e, _⟩ := p; exact Heap.lt_size e
  refine call_all_walk (wpAny_pyIter_list p.isList ?_)
  refine ⟨s.heap.objs.size, _, _, _, _, _, _, rfl, Walks.list (A := X.A.in1) (I.ok.hd hc) s.heap.objs.size a (Nat.ne_of_lt hlt) (bs.map Value.bool).toArray, ⟨⟨_, Heap.get?_push_size _ rfl, rfl, rfl⟩, p.isList.push _⟩, truth_bools, fun h' tk hk => ?_⟩
  refine ⟨.bl (bs.all id), H, I.kept (t' := tk) fun b o eb => hk b o (by simp; exact Nat.ne_of_lt (Heap.lt_size eb)) (Heap.get?_push_of_some _ eb), ?_, q⟩
  show Value.bool _ = Value.bool _
  rw [← range_all]; simp
theorem call_any (K : PySem.W.Frag) (hc : X.calm = true) (hK : X.K = K := by rfl) : CallR X (.builtin "any") (fun xs H Q => ∃ (a : Addr) (bs : List Bool), xs = [.ref a] ∧ SqL K H a (bs.map V.bl) ∧ Q (.bl (bs.any id)) H) := by
  subst hK
  intro pins s σ H xs us Q I r h
  obtain ⟨a, bs, rfl, hS, q⟩ := h
  obtain ⟨u, rfl, ru⟩ := vals1 r
  cases ru
  obtain ⟨its, rv, p, hz⟩ := I.list hS
  have e := vals_bools rv
  subst e
  have hlt : a < s.heap.objs.size := by obtain ⟨o, _, e, _⟩ := p; exact Heap.lt_size e
  refine call_any_walk (wpAny_pyIter_list p.isList ?_)
  refine ⟨s.heap.objs.size, _, _, _, _, _, _, rfl, Walks.list (A := X.A.in1) (I.ok.hd hc) s.heap.objs.size a (Nat.ne_of_lt hlt) (bs.map Value.bool).toArray, ⟨⟨_, Heap.get?_push_size _ rfl, rfl, rfl⟩, p.isList.push _⟩, truth_bools, fun h' tk hk => ?_⟩
  refine ⟨.bl (bs.any id), H, I.kept (t' := tk) fun b o eb => hk b o (by simp; exact Nat.ne_of_lt (Heap.lt_size eb)) (Heap.get?_push_of_some _ eb), ?_, q⟩
  show Value.bool _ = Value.bool _
  rw [← range_any]; simp
end
end L2
set_option Elab.async false
set_option linter.all false
set_option maxRecDepth 100000
set_option maxHeartbeats 4000000
namespace L2
open PySem PySem.Spec PyProof.Rows
open CH
/-! ### rows of ways as lists of one's own -/
noncomputable def rowD (ws : List (Int × Rat)) : Dt := .lst (ws.map wD)
noncomputable def Rows (K : PySem.W.Frag) (H : Hp) (as : List Addr) (wss : List (List (Int × Rat))) : Prop :=
  as.length = wss.length ∧ ∀ (i : Nat) (a : Addr) (ws : List (Int × Rat)), as[i]? = some a → wss[i]? = some ws → ∃ xs, H a = some (.lst xs) ∧ Ats K H (ws.map wD) xs
section
variable {K : PySem.W.Frag} {H H' : Hp} {as : List Addr} {wss : List (List (Int × Rat))}
theorem At.wayUpd {l : Addr} {xs zs : List V} {w : Int × Rat} {v : V} (hl : H l = some (.lst xs)) (h : At K H (wD w) v) : At K (upd H l (.lst zs)) (wD w) v := by
  obtain ⟨p, c, rfl, h1, h2⟩ := h.way
  exact way_at (SqT.updL hl h1) (SqT.updL hl h2)
theorem Ats.wayUpd {l : Addr} {xs zs : List V} (hl : H l = some (.lst xs)) : ∀ {ws : List (Int × Rat)} {vs : List V}, Ats K H (ws.map wD) vs → Ats K (upd H l (.lst zs)) (ws.map wD) vs
  | [], vs, h => by simpa [Ats] using h
  | w :: ws, vs, h => by
    simp only [List.map_cons, Ats] at h ⊢
    obtain ⟨v, r, e, h1, h2⟩ := h
    exact ⟨v, r, e, h1.wayUpd hl, h2.wayUpd hl⟩
theorem dpD_row (ws : List (Int × Rat)) : dpD (rowD ws) ≤ 3 := by
  simp only [rowD, dpD]
  have := dpDs_map (f := wD) (n := 2) (fun w => Nat.le_of_eq (dpD_way w)) ws
  omega
theorem dpD_rows (wss : List (List (Int × Rat))) : dpD (.lst (wss.map rowD)) ≤ 4 := by
  simp only [dpD]
  have := dpDs_map (f := rowD) (n := 3) dpD_row wss
  omega
end
/-- the ways of a row among n rooms -/
structure RowOk (n : Nat) (ws : List (Int × Rat)) : Prop where
  way : ∀ w ∈ ws, 0 ≤ w.1 ∧ w.1 < (n : Int) ∧ 0 < w.2 ∧ Sm 40 w.2
  len : ws.length ≤ 10
  one : rsum (ws.map (·.2)) = 1
/-! ### ints in a list -/
theorem sum_set : ∀ {l : List Int} {j : Nat} {v : Int}, j < l.length → (l.set j v).sum = l.sum + v - l.getD j 0
  | [], j, v, h => by simp at h
  | x :: l, 0, v, h => by simp; (clear h; omega)
  | x :: l, j + 1, v, h => by
    have ih := sum_set (l := l) (j := j) (v := v) (by simpa using h)
    rw [List.set_cons_succ, List.sum_cons, List.sum_cons, ih]
    show _ = x + l.sum + v - l.getD j 0
    (clear ih h; omega)
theorem rep_ints (k : Nat) (x : Int) : (List.replicate k [V.int x]).flatten = (List.replicate k x).map V.int := by
  induction k with
  | zero => rfl
  | succ k ih => rw [List.replicate_succ, List.flatten_cons, ih, List.replicate_succ, List.map_cons]; rfl
theorem divInt_sum {s x w : Int} (hw : w ≠ 0) : Rat.divInt s w + Rat.divInt x w = Rat.divInt (s + x) w := by
  rw [Rat.divInt_add_divInt _ _ hw hw, ← Int.add_mul, Rat.divInt_mul_right hw]
theorem crossR {q : Rat} {t b : Int} (hb : b ≠ 0) (e : q = Rat.divInt t b) : q.num * b = t * ((q.den : Nat) : Int) := by
  have h : Rat.divInt q.num q.den = Rat.divInt t b := by rw [self_div]; exact e
  exact (Rat.divInt_eq_divInt_iff (den_ne q) hb).mp h
theorem divInt_pos {t b : Int} (ht : 0 < t) (hb : 0 < b) : (0 : Rat) < Rat.divInt t b := by
  have h := crossR (q := Rat.divInt t b) (by (clear ht; omega)) rfl
  have h2 : 0 < (Rat.divInt t b).num * b := by rw [h]; exact Int.mul_pos ht (den_pos _)
  have h3 : 0 < (Rat.divInt t b).num := Int.pos_of_mul_pos_left (a := (Rat.divInt t b).num) h2 hb |> fun h => h
  rw [Rat.lt_iff]
  show 0 * _ < (Rat.divInt t b).num * 1
  (clear h2 h hb ht; omega)
theorem ixS (K : PySem.W.Frag) {X : Cx} (h : X.K = K := by rfl) : IxR X (rIx K) := h ▸ ix_seq
/-! ### data of ints, tuples and lists -/
mutual
noncomputable def okD : Dt → Bool
  | .int _ => true
  | .tup xs => decide (xs.length ≤ 1000) && okDs xs
  | .lst xs => decide (xs.length ≤ 1000) && okDs xs
  | _ => false
noncomputable def okDs : List Dt → Bool
  | [] => true
  | x :: xs => okD x && okDs xs
end
theorem okDs_get : ∀ {ds : List Dt} {i : Nat} {d : Dt}, okDs ds = true → ds[i]? = some d → okD d = true
  | [], i, d, h, e => by simp at e
  | x :: xs, 0, d, h, e => by simp at e; subst e; simp only [okDs, Bool.and_eq_true] at h; exact h.1
  | x :: xs, i + 1, d, h, e => by simp only [okDs, Bool.and_eq_true] at h; exact okDs_get h.2 (by simpa using e)
theorem dpDs_get : ∀ {ds : List Dt} {i : Nat} {d : Dt}, ds[i]? = some d → dpD d ≤ dpDs ds
  | [], i, d, e => by simp at e
  | x :: xs, 0, d, e => by simp at e; subst e; simp only [dpDs]; omega
  | x :: xs, i + 1, d, e => by have := dpDs_get (ds := xs) (i := i) (d := d) (by simpa using e); simp only [dpDs]; (clear e; omega)
theorem okDs_map {α : Type} {f : α → Dt} : ∀ {l : List α}, (∀ a ∈ l, okD (f a) = true) → okDs (l.map f) = true
  | [], _ => rfl
  | a :: l, h => by simp only [List.map_cons, okDs, Bool.and_eq_true]; exact ⟨h a (by simp), okDs_map fun b hb => h b (List.mem_cons_of_mem _ hb)⟩
theorem okD_fr (q : Rat) : okD (frD q) = true := rfl
theorem okD_way (w : Int × Rat) : okD (wD w) = true := rfl
theorem okD_row {ws : List (Int × Rat)} (h : ws.length ≤ 1000) : okD (rowD ws) = true := by
  simp only [rowD, okD, Bool.and_eq_true, decide_eq_true_eq, List.length_map]
  exact ⟨h, okDs_map fun w _ => okD_way w⟩
theorem okD_rows {wss : List (List (Int × Rat))} (h : wss.length ≤ 1000) (h2 : ∀ ws ∈ wss, ws.length ≤ 1000) : okD (.lst (wss.map rowD)) = true := by
  simp only [okD, Bool.and_eq_true, decide_eq_true_eq, List.length_map]
  exact ⟨h, okDs_map fun ws hw => okD_row (h2 ws hw)⟩
/-- a new list of new rows -/
structure NewR (K : PySem.W.Frag) (H H' : Hp) (q : Addr) (bs : List Addr) (wss : List (List (Int × Rat))) : Prop where
  same : Same H H'
  top : H' q = some (.lst (bs.map V.ref))
  rows : Rows K H' bs wss
  nd : bs.Nodup
  out : q ∉ bs
  free : H q = none
  frees : ∀ b ∈ bs, H b = none
section
variable {K : PySem.W.Frag} {H H' H1 H2 : Hp} {q a l : Addr} {as bs : List Addr} {wss : List (List (Int × Rat))} {ys : List V}
/-- an object that was not there changes: what was there stays -/
theorem same_upd {o : HO} (s : Same H H') (hl : H l = none) : Same H (upd H' l o) := fun b u h => by
  have hne : b ≠ l := fun e => by subst e; rw [hl] at h; cases h
  rw [upd_ne hne]; exact s b u h
end
/-- the rows of a chain halted at marks -/
noncomputable def hal (ms : List Int) (wss : List (List (Int × Rat))) : List (List (Int × Rat)) := wss.mapIdx fun i ws => if (i : Int) ∈ ms then [((i : Int), (1 : Rat))] else ws
theorem frac_one {K : PySem.W.Frag} {H : Hp} {g : Addr} (h : SqT K H g [.int 1, .int 1]) : FracT K H g 1 := h
end L2
set_option Elab.async false
set_option linter.all false
set_option maxRecDepth 100000
set_option maxHeartbeats 4000000
namespace L2
open PySem PySem.Spec PyProof.Rows
open CH
/-! ### is, is not, of truths -/
section
variable {X : Cx}
end
/-! ### doors and houses as data -/
noncomputable abbrev Way := Int × Rat
noncomputable abbrev Door := Rat × List Way
noncomputable def doorD (d : Door) : Dt := .tup [frD d.1, rowD d.2]
noncomputable def doorsD (ds : List Door) : Dt := .lst (ds.map doorD)
noncomputable def houseD (h : List (List Door)) : Dt := .lst (h.map doorsD)
section
variable {K : PySem.W.Frag} {H : Hp}
theorem At.row {ws : List Way} {v : V} (h : At K H (rowD ws) v) : ∃ a xs, v = .ref a ∧ SqL K H a xs ∧ Ats K H (ws.map wD) xs := by simpa only [rowD, At] using h
theorem row_at {ws : List Way} {a : Addr} {xs : List V} (h : SqL K H a xs) (h2 : Ats K H (ws.map wD) xs) : At K H (rowD ws) (.ref a) := by
  simp only [rowD, At]; exact ⟨a, xs, rfl, h, h2⟩
theorem At.door {d : Door} {v : V} (h : At K H (doorD d) v) : ∃ p c a xs, v = .ref p ∧ SqT K H p [.ref c, .ref a] ∧ FracT K H c d.1 ∧ SqL K H a xs ∧ Ats K H (d.2.map wD) xs := by
  simp only [doorD, At, Ats] at h
  obtain ⟨p, xs, e, h1, v1, r1, e1, h2, v2, r2, e2, h3, h4⟩ := h
  obtain ⟨c, rfl, f⟩ := h2.fr
  obtain ⟨a, ys, rfl, g1, g2⟩ := h3.row
  subst e1 e2 h4
  exact ⟨p, c, a, ys, e, h1, f, g1, g2⟩
theorem door_at {p c a : Addr} {xs : List V} {q : Rat} {ws : List Way} (h : SqT K H p [.ref c, .ref a]) (f : FracT K H c q) (g1 : SqL K H a xs) (g2 : Ats K H (ws.map wD) xs) : At K H (doorD (q, ws)) (.ref p) := by
  simp only [doorD, At, Ats]
  exact ⟨p, _, rfl, h, _, _, rfl, FracT.at f, _, _, rfl, row_at g1 g2, rfl⟩
theorem At.doors {ds : List Door} {v : V} (h : At K H (doorsD ds) v) : ∃ a xs, v = .ref a ∧ SqL K H a xs ∧ Ats K H (ds.map doorD) xs := by simpa only [doorsD, At] using h
theorem doors_at {ds : List Door} {a : Addr} {xs : List V} (h : SqL K H a xs) (h2 : Ats K H (ds.map doorD) xs) : At K H (doorsD ds) (.ref a) := by
  simp only [doorsD, At]; exact ⟨a, xs, rfl, h, h2⟩
theorem At.house {hs : List (List Door)} {v : V} (h : At K H (houseD hs) v) : ∃ a xs, v = .ref a ∧ SqL K H a xs ∧ Ats K H (hs.map doorsD) xs := by simpa only [houseD, At] using h
theorem house_at {hs : List (List Door)} {a : Addr} {xs : List V} (h : SqL K H a xs) (h2 : Ats K H (hs.map doorsD) xs) : At K H (houseD hs) (.ref a) := by
  simp only [houseD, At]; exact ⟨a, xs, rfl, h, h2⟩
end
theorem dpD_door (d : Door) : dpD (doorD d) ≤ 4 := by
  have := dpD_row d.2
  simp only [doorD, dpD, dpDs, frD]; omega
theorem dpD_doors (ds : List Door) : dpD (doorsD ds) ≤ 5 := by
  have := dpDs_map (f := doorD) (n := 4) dpD_door ds
  simp only [doorsD, dpD]; omega
theorem dpD_house (hs : List (List Door)) : dpD (houseD hs) ≤ 6 := by
  have := dpDs_map (f := doorsD) (n := 5) dpD_doors hs
  simp only [houseD, dpD]; omega
/-! ### what a row, a room, a house is -/
noncomputable def rowG (n : Int) : Int → List Way → Bool
  | _, [] => true
  | last, w :: ws => !decide (w.1 ≤ last) && !decide (n ≤ w.1) && decide (0 < w.2) && rowG n w.1 ws
noncomputable def rowB (n : Int) (ws : List Way) : Bool := rowG n (-1) ws && decide (rsum (ws.map (·.2)) = 1)
noncomputable def doorB (n : Int) (d : Door) : Bool := !decide (d.1 < 0) && rowB n d.2
noncomputable def doorsB (n : Int) (ds : List Door) : Bool := !decide (ds.length = 0) && (ds.map (doorB n)).all id
noncomputable def houseB (hs : List (List Door)) : Bool := !decide (hs.length = 0) && (hs.map (doorsB (hs.length : Int))).all id
/-- all numbers of a row are small -/
structure RowSm (n : Nat) (ws : List Way) : Prop where
  sm : ∀ w ∈ ws, Sm n w.2
  len : ws.length ≤ 100
structure HouseSm (n : Nat) (hs : List (List Door)) : Prop where
  len : hs.length ≤ 100
  lens : ∀ ds ∈ hs, ds.length ≤ 100
  cost : ∀ ds ∈ hs, ∀ d ∈ ds, Sm n d.1
  row : ∀ ds ∈ hs, ∀ d ∈ ds, RowSm n d.2
/-! ### the heap without some lists -/
noncomputable def remL (H : Hp) (ls : List Addr) : Hp := fun b => if b ∈ ls then none else H b
section
variable {K : PySem.W.Frag} {H H' : Hp} {ls : List Addr} {l p : Addr} {o : HO}
theorem remL_out (h : p ∉ ls) : remL H ls p = H p := if_neg h
theorem remL_in (h : p ∈ ls) : remL H ls p = none := if_pos h
theorem same_rem (s : Same H H') : Same (remL H ls) (remL H' ls) := fun b u h => by
  by_cases hb : b ∈ ls
  · rw [remL_in hb] at h; cases h
  · rw [remL_out hb] at h ⊢; exact s b u h
theorem rem_same : Same (remL H ls) H := fun b u h => by
  by_cases hb : b ∈ ls
  · rw [remL_in hb] at h; cases h
  · rwa [remL_out hb] at h
theorem rem_upd (hl : l ∈ ls) : remL (upd H l o) ls = remL H ls := by
  funext b
  by_cases hb : b ∈ ls
  · rw [remL_in hb, remL_in hb]
  · rw [remL_out hb, remL_out hb, upd_ne (fun e => hb (by rw [e]; exact hl))]
theorem rem_less {ls' : List Addr} (h : ∀ b ∈ ls', b ∈ ls) : Same (remL H ls) (remL H ls') := fun b u e => by
  by_cases hb : b ∈ ls
  · rw [remL_in hb] at e; cases e
  · rw [remL_out hb] at e
    rw [remL_out (fun z => hb (h b z))]; exact e
theorem SqT.rem {ys : List V} (hl : ∀ l ∈ ls, ∃ xs, H l = some (.lst xs)) (h : SqT K H p ys) : SqT K (remL H ls) p ys := by
  have key : ∀ u, H p = some u → (∀ xs, u ≠ .lst xs) → remL H ls p = some u := fun u e hn => by
    have : p ∉ ls := fun z => by
      obtain ⟨xs, e'⟩ := hl p z
      rw [e] at e'; exact hn xs (Option.some.inj e')
    rw [remL_out this]; exact e
  rcases h with (h | ⟨o, h⟩) | h
  · exact .inl (.inl (key _ h (fun xs z => by cases z)))
  · exact .inl (.inr ⟨o, key _ h (fun xs z => by cases z)⟩)
  · exact .inr h
theorem Ats.wayRem (hl : ∀ l ∈ ls, ∃ xs, H l = some (.lst xs)) : ∀ {ws : List Way} {vs : List V}, Ats K H (ws.map wD) vs → Ats K (remL H ls) (ws.map wD) vs
  | [], vs, h => by simpa [Ats] using h
  | w :: ws, vs, h => by
    simp only [List.map_cons, Ats] at h ⊢
    obtain ⟨v, r, e, h1, h2⟩ := h
    obtain ⟨p, c, rfl, g1, g2⟩ := h1.way
    exact ⟨_, r, e, way_at (g1.rem hl) (SqT.rem hl g2), h2.wayRem hl⟩
theorem SqL.outRem {ys : List V} (hp : p ∉ ls) (h : SqL K H p ys) : SqL K (remL H ls) p ys := by
  rcases h with (h | ⟨o, h⟩) | h
  · exact .inl (.inl (by rw [remL_out hp]; exact h))
  · exact .inl (.inr ⟨o, by rw [remL_out hp]; exact h⟩)
  · exact .inr h
end
theorem divInt_nonneg {t b : Int} (ht : 0 ≤ t) (hb : 0 < b) : ¬ Rat.divInt t b < 0 := by
  have h := crossR (q := Rat.divInt t b) (by (clear ht; omega)) rfl
  have h2 : 0 ≤ (Rat.divInt t b).num * b := by rw [h]; exact Int.mul_nonneg ht (Int.le_of_lt (den_pos _))
  have h3 : 0 ≤ (Rat.divInt t b).num := Int.nonneg_of_mul_nonneg_left h2 hb
  rw [Rat.lt_iff]
  show ¬ (Rat.divInt t b).num * 1 < 0 * _
  (clear h2 h hb ht; omega)
/-- a row that is one, its numbers small -/
structure GoodRow (n : Nat) (ws : List Way) : Prop where
  way : ∀ w ∈ ws, 0 ≤ w.1 ∧ w.1 < (n : Int) ∧ 0 < w.2 ∧ Sm 40 w.2
  len : ws.length ≤ 10
  one : rsum (ws.map (·.2)) = 1
  rise : ws.Pairwise (fun a b => a.1 < b.1)
structure GoodHouse (hs : List (List Door)) : Prop where
  pos : 1 ≤ hs.length
  len : hs.length ≤ 10
  lens : ∀ ds ∈ hs, 1 ≤ ds.length ∧ ds.length ≤ 4
  cost : ∀ ds ∈ hs, ∀ d ∈ ds, ¬ d.1 < 0 ∧ Sm 40 d.1
  row : ∀ ds ∈ hs, ∀ d ∈ ds, GoodRow hs.length d.2
theorem GoodHouse.sm {hs : List (List Door)} (h : GoodHouse hs) : HouseSm 4000 hs :=
  ⟨by have := h.len; omega, fun ds hd => by have := h.lens ds hd; omega, fun ds hd d hd' => (h.cost ds hd d hd').2.mono (by decide), fun ds hd d hd' => ⟨fun w hw => ((h.row ds hd d hd').way w hw).2.2.2.mono (by decide), by have := (h.row ds hd d hd').len; omega⟩⟩
end L2
set_option Elab.async false
set_option linter.all false
set_option maxRecDepth 100000
set_option maxHeartbeats 4000000
namespace L2
open PySem PySem.Spec PyProof.Rows
open CH
/-- a zip whose last pair is held -/
noncomputable abbrev ZipO (h : Heap) (z TI TO a : Addr) (f : Bool) : Prop :=
  h.get? z = some { cls := .type "zip", dict := none, data := .fields #[rawInt a, .bool f, .bool false, .ref TI, .ref TO], slots := #[] }
section
variable {prog : Program} {w : World} {A : Around} {E : Value → Shared → Prop} {s : Shared}
end
/-- the zip at turn i, ahead of the first or with a pair out -/
noncomputable def ZSt (h : Heap) (z TI TO i1 i2 l1 l2 S : Addr) (i : Nat) : Prop :=
  IsPair h TI (.ref i1) (.ref i2) ∧ h.IsListIter i1 l1 i ∧ h.IsListIter i2 l2 i ∧ ((i = 0 ∧ IsZip h z TI TO .none ∧ ∃ u v, IsPair h TO u v) ∨ ∃ a f oa, ZipO h z TI TO a f ∧ h.get? a = some oa ∧ a ≠ z ∧ a ≠ i1 ∧ a ≠ i2 ∧ a ≠ S)
section
variable {prog : Program} {w : World} {A : Around} {E : Value → Shared → Prop} {s : Shared}
end
/-- the pairs drawn so far -/
structure ZG (xs ys : Array Value) (lo : Addr) (h : Heap) (as : List Addr) : Prop where
  rise : as.Pairwise (· < ·)
  above : ∀ a ∈ as, lo ≤ a
  pairs : ∀ (j : Nat) (a : Addr), as[j]? = some a → ∃ x y, xs[j]? = some x ∧ ys[j]? = some y ∧ IsPair h a x y
section
variable {prog : Program} {w : World} {A : Around} {s : Shared} {R : Result → Shared → Prop} {xs ys : Array Value}
end
section
variable {prog : Program} {w : World} {A : Around} {E : Value → Shared → Prop} {s : Shared} {xs ys : Array Value} {z TI TO i1 i2 l1 l2 : Addr}
end
/-! ### the objects made are taken into the heap one speaks of -/
/-- list(zip(a, b)) -/
noncomputable def tLZip (K : PySem.W.Frag) (ta : TA) : TE := fun σ H Q => ta σ H fun vs H1 => ∃ a b xs ys, vs = [.ref a, .ref b] ∧ SqL K H1 a xs ∧ SqL K H1 b ys ∧ xs.length = ys.length ∧
  ∀ (l : Addr) (H' : Hp) (ts : List Addr), Same H1 H' → H1 l = none → H' l = some (.lst (ts.map V.ref)) → ts.length = xs.length → (∀ (j : Nat) (t : Addr) (x y : V), ts[j]? = some t → xs[j]? = some x → ys[j]? = some y → H' t = some (.tup [x, y])) → Q (.ref l) H'
end L2
set_option Elab.async false
set_option linter.all false
set_option maxRecDepth 100000
set_option maxHeartbeats 4000000
namespace L2
open PySem PySem.Spec PyProof.Rows
open CH
/-! ### sorted(d), the keys ints -/
theorem ints_of : ∀ {ks : List Int} {its : List Value}, its.length = ks.length → (∀ (j : Nat) (v : Value), its[j]? = some v → ∃ t k, ks[j]? = some k ∧ v = Value.int k t) → IntsAre its ks
  | [], [], _, _ => .nil
  | [], _ :: _, h, _ => by simp at h
  | _ :: _, [], h, _ => by simp at h
  | k :: ks, v :: its, h, hv => by
    obtain ⟨t, k', e1, e2⟩ := hv 0 v rfl
    simp at e1
    subst e1 e2
    exact .cons _ _ (ints_of (by simpa using h) fun j w e => hv (j + 1) w (by simpa using e))
theorem vals_ints2 : ∀ {ks : List Int} {its : List Value}, IntsAre its ks → Vals (ks.map V.int) its
  | _, _, .nil => .nil
  | _, _, .cons n t r => .cons ⟨t, rfl⟩ (vals_ints2 r)
theorem kv_keys {kvs : List (Key × V)} {vs : List (Key × Value)} (h : KV kvs vs) : vs.map (·.1) = kvs.map (·.1) := by
  induction h with
  | nil => rfl
  | cons e _ ih => rw [List.map_cons, List.map_cons, ih, e.1]
section
variable {X : Cx}
theorem call_sortedD (hc : X.calm = true) : CallR X (.builtin "sorted") (fun xs H Q => ∃ (a : Addr) (kvs : List (Key × V)) (ks : List Int), xs = [.ref a] ∧ H a = some (.dK kvs) ∧ kvs.map (·.1) = ks.map Sum.inl ∧ ks.length < 64 ∧
    ∀ (l : Addr) (ks' : List Int), H l = none → ks'.Perm ks → ks'.Pairwise (· ≤ ·) → Q (.ref l) (upd H l (.lst (ks'.map V.int)))) := by
  intro pins s σ H xs us Q I r h
  obtain ⟨a, kvs, ks, rfl, hH, hk, h64, q⟩ := h
  obtain ⟨u, rfl, ru⟩ := vals1 r
  cases ru
  obtain ⟨hz, lo, vs, rel, hD⟩ := dk_of I.hok hH
  obtain ⟨ep, hat⟩ := hD.dictAt
  have hkeys := (kv_keys rel).trans hk
  have hlen : vs.length = ks.length := by have := congrArg List.length hkeys; simpa using this
  refine Calls.call_function_entry kind_sorted plain_sorted entry_sorted (args_sorted1 _) ?_
  unfold Builtin.«sorted»
  refine wpAny_bind (m := checkCount "sorted" 1 1 _) (wpAny_pure ?_)
  refine wpAny_bind (PySem.W.kdu_collect (A := X.A.in1) (PySem.W.kdl_dict (knd := mixKind X.prog X.w) (kvs := vs) (ep := ep) lo) (I.ok.hd hc) hat (Nat.le_of_lt (small1000 (by (clear hkeys lo hz hk hH hc; omega)))) fun h' tk acc hk' hacc => ?_)
  have hl : acc.toList.length = ks.length := by rw [Array.length_toList, ← hlen]; exact hacc.1
  have hI : IntsAre acc.toList ks := ints_of hl fun j v e => by
    obtain ⟨k, x, e1, e2⟩ := hacc.2 j v (by rw [← Array.getElem?_toList]; exact e)
    have e3 : (vs.map (·.1))[j]? = some k := by rw [List.getElem?_map, e1]; rfl
    rw [hkeys, List.getElem?_map] at e3
    cases e4 : ks[j]? with
    | none => rw [e4] at e3; cases e3
    | some i =>
      rw [e4] at e3
      have e5 : Sum.inl i = k := by simpa using e3
      subst e5
      rcases keyIs_shape (k := .inl i) (v := v) e2 with ⟨i', t, e6, e7⟩ | ⟨x', t, e6, _⟩
      · cases e6; exact ⟨t, i, rfl, e7⟩
      · cases e6
  refine wpAny_bind (wpAny_newList ?_ (by rw [hl]; exact Nat.le_of_lt (small1000 (by (clear hkeys lo hz hk hH hc; omega)))))
  have hoL : (h'.push (seqObj "list" acc.toList.toArray 0)).get? h'.objs.size = some (seqObj "list" acc.toList.toArray 0) := Heap.get?_push_size _ rfl
  refine wpAny_bind (wpAny_holding (wpAny_call_entry slot_list_sort ⟨_, hoL, rfl⟩ entry_list_sort (list_sort_tree hoL hI (by rw [hl]; exact h64) fun out ns' a1 a2 a3 => ⟨_, rfl, ?_⟩) (args_list_sort _)))
  refine wpAny_pure ⟨_, rfl, ?_⟩
  obtain ⟨e, he⟩ := sortedHeap_at (out := out) hoL
  have I1 : Inv X pins σ H { s with heap := h', toks := tk } := I.kept (t' := tk) hk'
  have keep : ∀ b o, h'.get? b = some o → (sortedHeap (h'.push (seqObj "list" acc.toList.toArray 0)) h'.objs.size acc.toList out).get? b = some o := fun b o hb' => by
    have hlt : b < h'.objs.size := Heap.lt_size hb'
    rw [sortedHeap_old (Nat.ne_of_lt hlt) (by rw [size_push']; exact Nat.lt_succ_of_lt hlt)]
    exact Heap.get?_push_of_some _ hb'
  refine ⟨.ref h'.objs.size, _, I1.laid (t' := tk) (o := .lst (ns'.map V.int)) keep (Nat.le_refl _) ⟨by rw [List.length_map, a2.length_eq]; exact Nat.le_of_lt (small1000 (by (clear he hoL hkeys lo hz hk hH hc; omega))), out.toList, e, vals_ints2 a1, by simpa using he⟩, rfl, q _ ns' (I1.hok.fresh (Nat.le_refl _)) a2 a3⟩
end
/-! ### list(reversed(l)) -/
section
variable {prog : Program} {w : World} {A : Around} {E : Value → Shared → Prop} {s : Shared}
end
section
variable {prog : Program} {w : World} {A : Around} {E : Value → Shared → Prop} {s : Shared} {z l : Addr} {items : Array Value}
end
noncomputable def tLRev (K : PySem.W.Frag) (ta : TA) : TE := fun σ H Q => ta σ H fun vs H1 => ∃ a xs, vs = [.ref a] ∧ SqL K H1 a xs ∧ ∀ l, H1 l = none → Q (.ref l) (upd H1 l (.lst xs.reverse))
end L2
set_option Elab.async false
set_option linter.all false
set_option maxRecDepth 100000
set_option maxHeartbeats 4000000
namespace L2
open PySem PySem.Spec PyProof.Rows
/-- xs.insert(k, y), k within the list -/
def rIns : V → List V → Hp → VK → Prop := fun x vs H Q => ∃ (l : Addr) (xs : List V) (k : Nat) (y : V), x = .ref l ∧ vs = [.int k, y] ∧ H l = some (.lst xs) ∧ k ≤ xs.length ∧ xs.length < 1000 ∧ Q .non (upd H l (.lst (xs.take k ++ y :: xs.drop k)))
/-! ### isinstance of a caught exception -/
def excφ (ea C : Addr) : Heap → Prop := fun h => ∃ o vs, h.get? ea = some o ∧ o.cls = .ref C ∧ o.data = .fields vs
theorem excφ_st {ea C : Addr} (g1 g2 : Heap) (h : excφ ea C g1) (k : ∀ o, g1.get? ea = some o → g2.get? ea = some o) : excφ ea C g2 := by
  obtain ⟨o, vs, a, b, c⟩ := h
  exact ⟨o, vs, k o a, b, c⟩
/-- what is to be known of an own exception's class -/
structure ExcK (K : PySem.W.Frag) (C : Addr) : Prop where
  ga : PySem.W.findIn K (.ref C) "__getattribute__" = some (some (.builtin "BaseException.__getattribute__"))
  gn : PySem.W.findIn K (.ref C) "__getattr__" = some none
  cl : PySem.W.findIn K (.ref C) "__class__" = some (some (.builtin "object.__class__"))
  ob : PySem.W.mroIn K C (.type "object") = some true
  be : PySem.W.mroIn K C (.type "BaseException") = some true
section
variable {prog : Program} {w : World} {A : Around} {E : Value → Shared → Prop} {h : Heap} {g : Array GenState} {d : Drawn} {t : Nat} {os : OsState} {a C : Addr} {o : Obj} {K : PySem.W.Frag}
theorem exk_cls (Z : ExcK K C) : ∃ cd dd od sl, K.lookup C = some ⟨dd, od, .cls cd, sl⟩ := by
  have z := Z.ob
  unfold PySem.W.mroIn at z
  obtain ⟨cd, hc, _⟩ := Option.bind_eq_some_iff.mp z
  unfold PySem.W.clsIn at hc
  split at hc
  · rename_i c' d' cd' sl' ho
    exact ⟨_, _, _, _, ho⟩
  · cases hc
theorem exk_get {R : Result → Shared → Prop} {tp : Value} (Z : ExcK K C) (X : K.In h) (hx : h.get? a = some o) (hc : o.cls = .ref C) (hq : R (.ok (.ret (.ref C))) ⟨h, g, d, t, os⟩) :
    codeAny (model prog w) A (.call (.builtin "getset_descriptor.__get__") ⟨[.builtin "object.__class__", .ref a, tp], []⟩) R ⟨h, g, d, t, os⟩ := by
  have T5 : (⟨h, g, d, t, os⟩ : Shared).TypeIs (.builtin "object.__class__") "getset_descriptor" := F.typeOf_object_class
  have sb : PySem.W.mroIn K C (.type (".".intercalate ("object.__class__".cutAt '.').dropLast)) = some true := by rw [F.owner_object_class]; exact Z.ob
  have L1 := PySem.W.looks_mroIn (M := model prog w) X sb
  refine codeAny_call_builtin F.slot_gs_get.plain F.entry_gs_get (F.slot_gs_get.check _ _ _ _ _ _ _ _ T5 (F.args_gs_get _ _ _) ?_)
  repeat (any_goals (first | assumption | (with_reducible refine wpAny_loadPart_at hx ?_; rw [hc]) | with_reducible refine L1.at ?_ | wp_step))
  refine ⟨Code.quiet_builtin _ (by decide +kernel), codeAny_builtin F.entry_object_class ?_⟩
  repeat (any_goals (first | assumption | (with_reducible refine wpAny_loadPart_at hx ?_; rw [hc]) | wp_step))
theorem exk_entry {tk : Tok} {Q : Fin → Shared → Prop} (Z : ExcK K C) (X : K.In h) (hx : h.get? a = some o) (hc : o.cls = .ref C) (hq : Q (.done (.ret (.ref C))) ⟨h, g, d, t, os⟩) :
    wpAny (model prog w) A (Builtin.«object.__getattribute__» ⟨[.ref a, .str "__class__" tk], []⟩) Q E ⟨h, g, d, t, os⟩ := by
  have T5 : (⟨h, g, d, t, os⟩ : Shared).TypeIs (.builtin "object.__class__") "getset_descriptor" := F.typeOf_object_class
  have L1 := PySem.W.looks_findIn (M := model prog w) X Z.cl
  have f5 := F.typeOf_object_class; have f6 := F.slot_gs_get.lookup; have f7 := F.slot_gs_set.lookup
  repeat (any_goals (first | assumption | (with_reducible refine wpAny_loadPart_at hx ?_; rw [hc]) | with_reducible refine L1.at ?_ | wp_step))
  refine exk_get Z X hx hc ?_
  repeat (any_goals (first | assumption | wp_step))
theorem exk_check {M : Model} {nv : Value} {Q : Unit → Shared → Prop} (Z : ExcK K C) (X : K.In h) (hx : h.get? a = some o) (hc : o.cls = .ref C) (hq : Q () ⟨h, g, d, t, os⟩) :
    wpAny M A (checkBuiltinCall "BaseException.__getattribute__" ⟨[.ref a, nv], []⟩) Q E ⟨h, g, d, t, os⟩ := by
  have hkd : builtinKind "BaseException.__getattribute__" = some .slot := by decide +kernel
  have hsp : splitId "BaseException.__getattribute__" = some ("BaseException", "__getattribute__") := by decide +kernel
  have ha := F.args_bexc_ga (.ref a) nv
  have L1 := PySem.W.looks_mroIn (M := M) X Z.be
  simp only [checkBuiltinCall, hkd, hsp]; refine wpAny_bind ?_
  unfold isInstance
  repeat (first | (with_reducible refine wpAny_loadPart_at hx ?_; rw [hc]) | with_reducible refine L1.at ?_ | wp_step)
  exact hq
theorem exk_by {tk : Tok} {Q : Value → Shared → Prop} (Z : ExcK K C) (X : K.In h) (hx : h.get? a = some o) (hc : o.cls = .ref C) (hq : Q (.ref C) ⟨h, g, d, t, os⟩) :
    wpAny (model prog w) A (getAttrBy (.ref a) (.str "__class__" tk) false) Q E ⟨h, g, d, t, os⟩ := by
  have f3 := F.excAttr_ValueError.ga.bind (.ref a)
  have L1 := PySem.W.looks_findIn (M := model prog w) X Z.ga
  have L2 := PySem.W.looks_findIn (M := model prog w) X Z.gn
  have y2 : (Value.builtin "BaseException.__getattribute__" == Value.builtin "object.__getattribute__") = false := by decide +kernel
  have y1 : (onTheHeap (Value.ref C) && Value.builtin "BaseException.__getattribute__" == Value.builtin "object.__getattribute__") = false := by rw [y2]; rfl
  repeat (any_goals (first | assumption | (with_reducible refine wpAny_loadPart_at hx ?_; rw [hc]) | with_reducible refine L1.at ?_ | with_reducible refine L2.at ?_ | wp_step))
  refine codeAny_call_builtin F.excAttr_ValueError.ga.plain F.entry_bexc_ga (exk_check Z X hx hc (exk_entry Z X hx hc ?_))
  repeat (any_goals (first | assumption | wp_step))
theorem exk_attr {Q : Option Value → Shared → Prop} (Z : ExcK K C) (X : K.In h) (hx : h.get? a = some o) (hc : o.cls = .ref C) (hq : Q (some (.ref C)) ⟨h, g, d, t + 1, os⟩) :
    wpAny (model prog w) A (getAttr? (.ref a) "__class__") Q E ⟨h, g, d, t, os⟩ := by
  unfold getAttr? getAttrBy?
  repeat (any_goals (first | assumption | with_reducible apply exk_by Z X hx hc | wp_step))
theorem kitx_exc (Z : ExcK K C) : PySem.W.KitX K (.ref a) (.ref C) (excφ a C) where
  ty := fun M h X p => by
    obtain ⟨o, vs, e, c, _⟩ := p
    exact c ▸ (PySem.W.Looks.ld e).andThen .now
  it := fun M h X p => by
    obtain ⟨cd, dd, od, sl, ho⟩ := exk_cls Z
    intro A' Q' E' s' k q
    unfold isType loadHead; exact wpAny_bind (wpAny_loadPart (k _ _ (X _ _ ho)) (wpAny_pure q))
  ne := fun h tp dd its n sl X htp => by
    obtain ⟨cd, dd', od, sl', ho⟩ := exk_cls Z
    refine Bool.eq_false_iff.mpr fun q => ?_
    cases Value.ref.inj (beq_iff_eq.mp q)
    have z := (X _ _ ho).symm.trans htp
    cases z
  ca := fun {_ _ _ _ _ s} X p k => by
    obtain ⟨h, g, d, t, os⟩ := s
    obtain ⟨o, vs, e, c, _⟩ := p
    exact exk_attr Z X e c k
end
section
variable {X : Cx}
/-- isinstance(e, C), isinstance(e, T), isinstance(e, (C1, ..)) of a caught exception -/
def rIsiE (K : PySem.W.Frag) : List V → Hp → VK → Prop := fun xs H Q => ∃ ea C c b, xs = [.ref ea, c] ∧ H ea = some (.ext (excφ ea C)) ∧ ExcK K C ∧ Q (.bl b) H ∧
  ((∃ D, c = .ref D ∧ PySem.W.kitOne K (.ref C) (.ref D) = some b) ∨ (∃ T, c = .ty T ∧ PySem.W.kitOne K (.ref C) (.type T) = some b) ∨
    ∃ tp vs, c = .ref tp ∧ H tp = some (.tup vs) ∧ ∀ its, Vals vs its → PySem.W.kitAny K (.ref C) its = some b)
theorem call_isiE (K : PySem.W.Frag) (hK : X.K = K := by rfl) : CallR X (.builtin "isinstance") (rIsiE K) := by
  subst hK
  intro pins s σ H xs us Q I r h
  obtain ⟨ea, C, c, b, rfl, he, Z, q, k⟩ := h
  obtain ⟨u, w', rfl, rx, ry⟩ := vals2 r
  cases (show u = Value.ref ea from rx)
  have fin : ∀ tk, EP X pins σ Q (.bool b) { s with toks := tk } := fun tk => ⟨.bl b, H, I.tok _, rfl, q⟩
  obtain ⟨hp, _, _⟩ := (show ObjOk X.prog X.w H s.heap ea (.ext (excφ ea C)) from I.hok ea _ he)
  rcases k with ⟨D, rfl, e⟩ | ⟨T, rfl, e⟩ | ⟨tp, vs, rfl, ht, e⟩
  · cases (show w' = Value.ref D from ry)
    exact PySem.W.kia_one (kitx_exc Z) I.kIn hp e (fun z => nomatch z) fin
  · cases (show w' = Value.type T from ry)
    exact PySem.W.kia_one (kitx_exc Z) I.kIn hp e (fun z => nomatch z) fin
  · cases (show w' = Value.ref tp from ry)
    obtain ⟨_, its, rv, ob, h1, h2, n, h3⟩ := (show ObjOk X.prog X.w H s.heap tp (.tup vs) from I.hok tp _ ht)
    obtain ⟨oc, od, dt, sl⟩ := ob
    dsimp only at h2 h3
    subst h2 h3
    exact PySem.W.kia_tup (kitx_exc Z) I.kIn hp h1 (e its rv) (fun z => nomatch z) fin
end
/-! ### try: .. except C as e: .. -/
def Cx.pin (X : Cx) (ps : List (Addr × Obj)) : Cx := { X with pn := X.pn ++ ps }
def Cx.trying (X : Cx) (ps : List (Addr × Obj)) (E : XK) : Cx := { X with pn := X.pn ++ ps, xe := fun e s' => ∃ pins σ H s, Inv (X.pin ps) pins σ H s ∧ CXE X.prog X.w X.stack H s E e s' }
def Cx.inH (X : Cx) (ea : Addr) : Cx := { X with A := X.A.mark (some (.ref ea)), calm := false, xe := fun _ _ => False }
section
variable {X : Cx} {ps pins : List (Addr × Obj)} {σ : St} {H : Hp} {s : Shared} {E : XK} {ea : Addr}
theorem Cx.Ok.pin (ok : X.Ok) : (X.pin ps).Ok := ⟨ok.mod, ok.kind, ok.glob, ok.blt, ok.above, ok.inj, ok.has, ok.cab, ok.hd, ok.frames, ok.stk, ok.exf, ok.bs, ok.bsz, ok.noex, ok.exfs, ok.funs, ok.frf⟩
theorem Cx.Ok.unpin (ok : (X.pin ps).Ok) : X.Ok := ⟨ok.mod, ok.kind, ok.glob, ok.blt, ok.above, ok.inj, ok.has, ok.cab, ok.hd, ok.frames, ok.stk, ok.exf, ok.bs, ok.bsz, ok.noex, ok.exfs, ok.funs, ok.frf⟩
theorem Cx.Ok.trying (ok : X.Ok) : (X.trying ps E).Ok := ⟨ok.mod, ok.kind, ok.glob, ok.blt, ok.above, ok.inj, ok.has, ok.cab, ok.hd, ok.frames, ok.stk, ok.exf, ok.bs, ok.bsz, ok.noex, ok.exfs, ok.funs, ok.frf⟩
theorem Cx.Ok.untry (ok : (X.trying ps E).Ok) : X.Ok := ⟨ok.mod, ok.kind, ok.glob, ok.blt, ok.above, ok.inj, ok.has, ok.cab, ok.hd, ok.frames, ok.stk, ok.exf, ok.bs, ok.bsz, ok.noex, ok.exfs, ok.funs, ok.frf⟩
theorem Cx.Ok.inH (ok : X.Ok) : (X.inH ea).Ok := ⟨ok.mod, ok.kind, ok.glob, ok.blt, ok.above, ok.inj, ok.has, ok.cab, (fun z => nomatch (show false = true from z)), ok.frames, ok.stk, ok.exf, ok.bs, ok.bsz, ok.noex, ok.exfs, ok.funs, ok.frf⟩
theorem Inv.trying (I : Inv X ps σ H s) : Inv (X.trying ps E) [] σ H s := ⟨I.ok.trying, I.os, I.bare, I.base, I.loc, I.cell, I.free, I.freeC, fun p hp => I.pin p (by simpa [Cx.trying] using hp), I.hok, I.len⟩
theorem Inv.untry (I : Inv (X.trying ps E) pins σ H s) : Inv X ps σ H s := ⟨I.ok.untry, I.os, I.bare, I.base, I.loc, I.cell, I.free, I.freeC, fun p hp => I.pin p (List.mem_append_left _ hp), I.hok, I.len⟩
theorem Inv.tryPin (I : Inv (X.trying ps E) pins σ H s) : Inv (X.pin ps) pins σ H s := ⟨I.ok.untry.pin, I.os, I.bare, I.base, I.loc, I.cell, I.free, I.freeC, I.pin, I.hok, I.len⟩
theorem Inv.unpin (I : Inv (X.pin ps) pins σ H s) : Inv X ps σ H s := ⟨I.ok.unpin, I.os, I.bare, I.base, I.loc, I.cell, I.free, I.freeC, fun p hp => I.pin p (List.mem_append_left _ hp), I.hok, I.len⟩
theorem Inv.inH (I : Inv X pins σ H s) : Inv (X.inH ea) pins σ H s := ⟨I.ok.inH, I.os, I.bare, I.base, I.loc, I.cell, I.free, I.freeC, I.pin, I.hok, I.len⟩
theorem Inv.unH (ok : X.Ok) (I : Inv (X.inH ea) pins σ H s) : Inv X pins σ H s := ⟨ok, I.os, I.bare, I.base, I.loc, I.cell, I.free, I.freeC, I.pin, I.hok, I.len⟩
theorem pass_try : Passes (CXE X.prog X.w) (X.trying ps E) E := fun pins σ H s e s' I c => ⟨pins, σ, H, s, I.tryPin, c⟩
/-- a local name goes -/
theorem Inv.forget {i : Nat} {n : Str} {h' : Heap} {tk : Nat} {m : Str → Option Value} {v : Option Value} (I : Inv X pins σ H s) (hN : X.N.Nodup) (hi : X.N[i]? = some n)
    (hn : s.heap.Ns X.env.locals m) (hm : ∀ (j : Nat) (x : Str) (v : V), X.N[j]? = some x → σ[j]? = some (some v) → Vis X.env.scope x → ∃ u, RelV v u ∧ Look X.env s.heap m x u)
    (hn' : h'.Ns X.env.locals (fun x => if x = n then v else m x)) (hs : Heap.SameBut X.env.locals s.heap h') : Inv X pins (σ.set i none) H { s with heap := h', toks := tk } := by
  have iσ : i < σ.length := by rw [I.len]; exact (List.getElem?_eq_some_iff.mp hi).1
  have ne0 : ∀ b o, X.s₀.heap.get? b = some o → b ≠ X.env.locals := fun b o e => Nat.ne_of_lt (Nat.lt_of_lt_of_le (Heap.lt_size e) I.ok.above)
  have hk : ∀ b u, b ≠ X.env.locals → s.heap.get? b = some u → h'.get? b = some u := fun b u nb e => (hs.2 b nb).trans e
  have nH : ∀ b o, H b = some o → b ≠ X.env.locals := fun b o e => ne_of_none e I.free
  refine ⟨I.ok, I.os, I.bare, ⟨fun b o e n hb hx => hk b o (ne0 b o e) (I.base.keep b o e n hb hx), fun b o e n hb hx => ?_, I.base.free, fun b o e hx => ?_, I.base.tups, I.base.frzs, I.base.tbls⟩,
    ⟨_, hn', fun j x v' e1 e2 e3 => ?_⟩, fun x c e => ?_, I.free, I.freeC, fun p hp => ?_, fun a o e => ?_, by simpa using I.len⟩
  · obtain ⟨sl, e1⟩ := I.base.slot b o e n hb hx
    exact ⟨sl, hk b _ (ne0 b o e) e1⟩
  · obtain ⟨o', e1⟩ := I.base.there b o e hx
    exact ⟨o', hk b _ (ne0 b o e) e1⟩
  · have hji : j ≠ i := fun z => by
      subst z
      rw [List.getElem?_set_self iσ] at e2
      cases e2
    rw [List.getElem?_set_ne (Ne.symm hji)] at e2
    obtain ⟨u, r, l⟩ := hm j x v' e1 e2 e3
    refine ⟨u, r, ?_⟩
    have hxn : x ≠ n := fun z => hji (nodup_ix hN e1 (z ▸ hi))
    rcases l with ⟨k1, k2⟩ | ⟨k1, c, k2, k3⟩
    · exact .inl ⟨k1, by show (if x = n then v else m x) = some u; rw [if_neg hxn]; exact k2⟩
    · exact .inr ⟨k1, c, k2, k3.sameBut hs (I.cne x c k2)⟩
  · obtain ⟨v', z⟩ := I.cell x c e
    exact ⟨v', z.sameBut hs (I.cne x c e)⟩
  · obtain ⟨e, n, nl, nf, d⟩ := I.pin p hp
    exact ⟨hk _ _ nl e, n, nl, nf, d⟩
  · refine (I.hok a o e).stay (fun b u hb q => hk b u ?_ q) (fun _ q => q) fun _ _ q => q
    rcases hb with rfl | hb
    · exact nH _ _ e
    · exact nH _ _ hb
end
/-- the caught class stands above the raised one -/
structure Catches (K : PySem.W.Frag) (C D : Addr) : Prop where
  ty : PySem.W.typeIn K (.ref D) = some (.type "type")
  be : PySem.W.mroIn K D (.type "BaseException") = some true
  sub : PySem.W.mroIn K C (.ref D) = some true
theorem catches {K : PySem.W.Frag} {M : Model} {A : Around} {E : Value → Shared → Prop} {h : Heap} {g : Array GenState} {d : Drawn} {t : Nat} {os : OsState} {ea C D : Addr} {oe : Obj} {Q : Bool → Shared → Prop} (Z : Catches K C D) (X : K.In h)
    (he : h.get? ea = some oe) (hc : oe.cls = .ref C) (hq : Q true ⟨h, g, d, t, os⟩) : wpAny M A (excMatches (.ref ea) (.ref D)) Q E ⟨h, g, d, t, os⟩ := by
  have L0 := PySem.W.looks_typeIn (M := M) X Z.ty
  have L1 := PySem.W.looks_mroIn (M := M) X Z.be
  have L2 := PySem.W.looks_mroIn (M := M) X Z.sub
  have z := Z.be
  unfold PySem.W.mroIn at z
  obtain ⟨cd, hcl, _⟩ := Option.bind_eq_some_iff.mp z
  unfold PySem.W.clsIn at hcl
  split at hcl
  case h_2 => cases hcl
  case h_1 ho =>
    have hD := X _ _ ho
    have fnt := tc_notTuple
    unfold excMatches
    repeat (first | (with_reducible refine wpAny_loadPart_at he ?_; rw [hc]) | with_reducible refine L0.at ?_ | with_reducible refine L1.at ?_ | with_reducible refine L2.at ?_ | with_reducible refine wpAny_loadPart_at hD ?_ | wp_step)
    exact hq
def Ends.gone (D : Ends) (i : Nat) : Ends := { nx := fun σ H => D.nx (σ.set i none) H, rt := D.rt, bk := fun σ H => D.bk (σ.set i none) H, ct := fun σ H => D.ct (σ.set i none) H }
def tTry (E : XK) (i : Nat) (tb : TS) (th : Addr → TS) : TS := fun D σ H => tb D σ H ∧ ∀ (ea C : Addr) (σ' : St) (H' : Hp), E (.ref C) none H' → σ'.length = σ.length → H' ea = none →
  th ea (D.gone i) (σ'.set i (some (.ref ea))) (upd H' ea (.ext (excφ ea C)))
theorem ps_try {X : Cx} {E : XK} {i : Nat} {n x : Str} {Dc : Addr} {body suite : List Stmt} {b₀ : Stmt} {np hpos pos : Pos} {tb : TS} {th : Addr → TS} (hN : X.N.Nodup) (hi : X.N[i]? = some n) (hlo : X.env.kindOf n = some .local)
    (hst : X.stack = X.env :: X.outer) (hfr : X.env.frame = some X.env.locals) (hm : X.mg x = some (.ref Dc)) (hcat : ∀ C H', E (.ref C) none H' → Catches X.K C Dc)
    (hb : ∀ ps, PSs (X.trying ps E) body tb) (hh : ∀ ea, PSs (X.inH ea) (b₀ :: suite) (th ea)) (hg : Gl X x := by rfl) (hd : (x == ("__debug__" : Str)) = false := by decide) :
    PS X (.Try body [.ExceptHandler (some (.Name x np)) (some n) (b₀ :: suite) hpos] [] [] pos) (tTry E i tb th) := by
  intro pins s σ H D I h
  obtain ⟨h1, h2⟩ := h
  refine wpAny_Try_except (wpAny_mono (hb pins [] s σ H D I.trying h1) (fun f s1 q => ?_) fun e s1 q => ?_)
  · cases f with
    | next =>
      obtain ⟨σ', H', J, q⟩ := q
      exact wpAny_execs_nil ⟨σ', H', J.untry, q⟩
    | brk => obtain ⟨σ', H', J, q⟩ := q; exact ⟨σ', H', J.untry, q⟩
    | cont => obtain ⟨σ', H', J, q⟩ := q; exact ⟨σ', H', J.untry, q⟩
    | ret u => obtain ⟨v, σ', H', J, r, q⟩ := q; exact ⟨v, σ', H', J.untry, r, q⟩
  · obtain ⟨pins', σ', H1, s0, I0, ea, C, H', rfl, os, bare, un, hok, ⟨B, t, fl, kp⟩, hE⟩ := q
    have I0 := I0.unpin
    have nz := fly_new fl kp
    have J := I0.call' (ch := []) os un hok bare (fun b z => absurd z (by simp))
    have fr : ∀ b ∈ frs X.stack, ∀ o, s1.heap.get? b = some o → ∀ vs, o.data ≠ .fields vs := fun b hb o ho => by obtain ⟨_, o', ho', hd⟩ := fl.2.2.1.mem hb; rw [ho] at ho'; cases ho'; exact hd
    have go : ∀ h2 : Heap, B.StaysIn h2 → s1.heap.UpToSlots h2 → excφ ea C h2 → Inv X pins σ' (upd H' ea (.ext (excφ ea C))) { s1 with heap := h2 } := fun h2 st up hp => by
      obtain ⟨un2, hok2, _⟩ := fly_on un hok J.stkFree fr kp st up
      have hx : ∃ o, h2.get? ea = some o := by obtain ⟨o, _, e, _⟩ := hp; exact ⟨o, e⟩
      obtain ⟨un3, hok3⟩ := fly_track un2 hok2 nz.1 nz.2 hp hx excφ_st
      exact I0.call' (s' := { s1 with heap := h2 }) (ch := []) os un3 hok3 bare (fun b z => absurd z (by simp))
    have ex : ∀ {l' : List Env} {h2 : Heap}, Heap.FlyingW B l' ea (.ref C) (.ref t) h2 → excφ ea C h2 := fun f => by
      obtain ⟨oe, ws, a1, a2, a3, _⟩ := f.first
      exact ⟨oe, ws, a1, a2, a3⟩
    have hfr' : X.A.frames = some (X.env :: X.outer) := by rw [I.ok.frames, hst]
    rw [hst] at fl
    refine wpAny_looks_onW hfr' hfr fl fun h4 held up4 => ?_
    refine wpAny_landsW held fun h5 fl5 up5 => ?_
    have I5 := go h5 fl5.1 (up4.trans up5) (ex fl5)
    obtain ⟨oe, ws, a1, a2, a3⟩ := ex fl5
    refine wpAny_handleBy_cons (codeAny_handlers_test (ld_glob (X := X.inH ea) I5.inH hg hm ?_ hd)) (by intro q; cases q)
    refine catches (hcat C H' hE) I5.kIn a1 a2 (codeAny_handlers_suite_as ?_)
    refine lands_againW fl5 fun h6 fl6 up6 => ?_
    have I6 := go h6 fl6.1 ((up4.trans up5).trans up6) (ex fl6)
    refine store_ok (X := X.inH ea) (v := .ref ea) I6.inH hN hi (.inl hlo) rfl (fun s7 I7 => ?_) (.inr hlo)
    have lenσ : σ'.length = σ.length := by rw [I0.len, I.len]
    refine wpAny_mono (hh ea pins s7 _ _ (D.gone i) I7 (h2 ea C σ' H' hE lenσ nz.1)) (fun f s8 q => ?_) fun _ _ z => False.elim z
    have hp0 : (X.env.scope.kind == .class || (X.env.scope.kind == .module && X.env.locals != X.env.globals)) = false := by rw [I.ok.kind]; rfl
    have fin : ∀ {σ8 : St} {H8 : Hp} {Q : Unit → Shared → Prop}, Inv (X.inH ea) pins σ8 H8 s8 → (∀ s9, Inv X pins (σ8.set i none) H8 s9 → Q () s9) →
        wpAny (model X.prog X.w) X.A (do bindName X.env n .none; unbindBehindTheSuite X.env n hpos) Q X.xe s8 := fun {σ8 H8 Q} J8 k => by
      have J8 := J8.unH I.ok
      obtain ⟨m, hn, hl⟩ := J8.loc
      exact wpAny_nameGoes_keeps hlo hn hp0 fun h9 v hn9 hs9 => k _ (J8.forget hN hi hn hl hn9 hs9)
    cases f with
    | next => obtain ⟨σ8, H8, J8, q⟩ := q; exact fin J8 fun s9 J9 => ⟨_, _, J9, q⟩
    | brk => obtain ⟨σ8, H8, J8, q⟩ := q; exact fin J8 fun s9 J9 => ⟨_, _, J9, q⟩
    | cont => obtain ⟨σ8, H8, J8, q⟩ := q; exact fin J8 fun s9 J9 => ⟨_, _, J9, q⟩
    | ret u => obtain ⟨v, σ8, H8, J8, r, q⟩ := q; exact fin J8 fun s9 J9 => ⟨v, _, _, J9, r, q⟩
theorem pass_no {X : Cx} : Passes (CXE X.prog X.w) X E0 := fun _ _ _ _ _ _ _ c => by obtain ⟨_, _, _, _, _, _, _, _, _, h⟩ := c; exact h.elim
/-! ### defs that may raise -/
def DfnX (P : Program) (w : World) (K : PySem.W.Frag) (mg : Str → Option Value) (base : Heap) (k : Nat) (x : Str) (ps : List Str) (sp : Sp) : Prop :=
  ∃ f fd, mg x = some (.ref f) ∧ PySem.W.keepIn K (.ref f) = true ∧ Binds K fd ps [] ∧ FnOk P w K mg base (CXE P w) k f fd ps sp
section
variable {P : Program} {w : World} {K : PySem.W.Frag} {mg : Str → Option Value} {base : Heap}
theorem TxtD.okX {x : Str} {st : Stmt} {N ps : List Str} {k : Nat} {sp : Sp} (T : TxtD K mg x st ps) (S : FnScope N ps (defScope st)) (len : ∀ vs H Q E, sp vs H Q E → vs.length = ps.length)
    (hbody : ∀ (f : Addr) (cdv : Value) (A : Around) (outer : List Env) (s : Shared) (H : Hp) (vs : List V) (Q : VK) (E : XK), Room k (A.deeper (envOfC x (defScope st) s.heap.objs.size f cdv)) → sp vs H Q E →
      ∃ t, PSs (cxOf (CXE P w) P w K mg base N x (defScope st) f cdv A outer s H E) (defBody st) t ∧ t { nx := fun _ H' => Q .non H', rt := Q } (start N vs) H) : DfnX P w K mg base (k + 1) x ps sp := by
  obtain ⟨f, fd, F, hm, hb⟩ := T.ex
  obtain ⟨oc, od, kV, doc, pm, an, cdv, ct, osl, rfl, lk, hcd⟩ := F.ex
  exact ⟨f, _, hm, F.kp, hb, fn_of lk hcd S len fun A outer s H vs Q E hr hsp => hbody f cdv A outer s H vs Q E hr hsp⟩
end
section
variable {X : Cx} {x : Str} {p pos : Pos} {e : Expr} {es : List Expr} {t : TA} {ps : List Str} {sp : Sp} {k k' : Nat} {E : XK}
theorem pe_callX (E : XK) (D : DfnX X.prog X.w X.K X.mg X.base k x ps sp) (hr : Room k' X.A) (hx : Passes (CXE X.prog X.w) X E) (ha : PA X (e :: es) t) (hk : k ≤ k' := by decide) (hg : Gl X x := by rfl) (hdb : (x == ("__debug__" : Str)) = false := by decide)
    (he : starEach (e :: es) X.env = (false, eval e X.env) :: starEach es X.env := by rfl) (hpl : (backTo pos (starEach es X.env)).any (·.1) = false := by rfl) :
    PE X (.Call (.Name x p) (e :: es) [] pos) (tCall sp [] E t) := by
  obtain ⟨f, fd, hm, kp, hb, F⟩ := D
  exact pe_call F (hr.mono hk) hg hm kp hb .nil hx ha hdb he hpl
end
end L2
set_option Elab.async false
set_option linter.all false
set_option maxRecDepth 100000
set_option maxHeartbeats 4000000
local macro_rules | `(tactic| walk_at "rd") => `(tactic| repeat (first | refine ⟨_, rfl, ?_⟩ | refine ⟨_, _, rfl, rfl, ?_⟩ | refine ⟨rfl, ?_⟩ | refine ⟨_, _, _, _, rfl, rfl, by assumption, rfl, ?_⟩))
namespace Law
open PySem PySem.Spec PyProof.Rows L2 CH
noncomputable def top (i : Nat) : Stmt := PySem.Challenge.pw_chancehouse_k18_a_house_under_a_mix.main.body.getD i (.Pass ⟨0, 0, 0, 0⟩)
/-- built-in names that the text has not bound -/
structure Blt (mg : Str → Option Value) : Prop where
  ValueError : mg "ValueError" = none
  abs : mg "abs" = none
  all : mg "all" = none
  any : mg "any" = none
  bool : mg "bool" = none
  int : mg "int" = none
  isinstance : mg "isinstance" = none
  len : mg "len" = none
  list : mg "list" = none
  min : mg "min" = none
  range : mg "range" = none
  sorted : mg "sorted" = none
  sum : mg "sum" = none
  tuple : mg "tuple" = none
  zip : mg "zip" = none
section
variable {P : Program} {w : World} {K : PySem.W.Frag} {mg : Str → Option Value} {base : Heap}
noncomputable abbrev sL_cell_at : Stmt := top 32
theorem scL_cell_at : FnScope ["_law_script", "_law_k"] ["_law_script", "_law_k"] (defScope sL_cell_at) := ⟨rfl, rfl, rfl, by decide +kernel, rfl, by decide +kernel, by decide +kernel⟩
noncomputable def spCell (K : PySem.W.Frag) : Sp := fun vs H Q _ => ∃ (a : Addr) (ns : List Int) (k : Int), vs = [.ref a, .int k] ∧ SqL K H a (ns.map V.int) ∧ 0 ≤ k ∧ Q (.int (ns.getD k.toNat 0)) H
theorem at_int {ns : List Int} {k : Int} (h0 : 0 ≤ k) (h : k < (ns.length : Int)) : atI (ns.map V.int) k = some (.int (ns.getD k.toNat 0)) := by
  obtain ⟨j, rfl⟩ : ∃ j : Nat, k = (j : Int) := ⟨k.toNat, by (clear h; omega)⟩
  have hj : j < ns.length := by (clear h0; omega)
  refine atI_nat ?_
  rw [List.getElem?_map, List.getElem?_eq_getElem hj, Option.map_some]
  simp [List.getD, hj]
theorem ok_cell (B : Blt mg) (T : TxtD K mg "_law_cell_at" sL_cell_at ["_law_script", "_law_k"]) : Dfn P w K mg base 1 "_law_cell_at" ["_law_script", "_law_k"] (spCell K) := by
  refine T.ok scL_cell_at (fun vs H Q E h => ?_) (fun f cdv A outer s H vs Q E hr h => ?_)
  · obtain ⟨a, ns, k, rfl, _⟩ := h
    rfl
  obtain ⟨a, ns, k, rfl, hS, h0, q⟩ := h
  refine ⟨_, (pss_cons (ps_if (pt_cmpR op_lt (pv 1) (pe_callB call_len_seq (by rfl) B.len boot_len (pa_cons (pv 0) pa_nil)) (nomark _))
        (pss_one (ps_ret (pe_ix ix_list (pv 0) (pv 1) (fun _ _ => rfl))))
        pss_nil)
      (pss_one (ps_ret pe_int))), ?_⟩
  refine ⟨_, rfl, _, rfl, a, _, rfl, .inl hS, _, _, rfl, rfl, _, rfl, ?_⟩
  have hl : (ns.map V.int).length = ns.length := List.length_map _
  refine ite2 (fun c => ?_) (fun c => ?_)
  · have c' := of_decide_eq_true c
    rw [hl] at c'
    refine ⟨_, rfl, _, rfl, a, _, _, _, rfl, rfl, hS, at_int h0 c', ?_⟩
    exact q
  · have c' := of_decide_eq_false (Bool.eq_false_iff.mpr c)
    rw [hl] at c'
    have e : ns.getD k.toNat 0 = 0 := by
      rw [List.getD_eq_getElem?_getD, List.getElem?_eq_none (by (clear c; omega)), Option.getD_none]
    rw [e] at q
    exact q
/-- the greatest common divisor -/
noncomputable def spGcd : Sp := fun vs H Q _ => ∃ (a b : Int), vs = [.int a, .int b] ∧ Q (.int ((Int.gcd a b : Nat) : Int)) H
theorem abs_if (i : Int) : (if i < 0 then -i else i) = ((i.natAbs : Nat) : Int) := by split <;> omega
theorem gcd_emod (a b : Int) (h : 0 ≤ b) : Int.gcd b (a % b) = Int.gcd a b := by
  rw [← Int.fmod_eq_emod_of_nonneg a h]; exact gcd_fmod a b
noncomputable abbrev sis_whole : Stmt := top 13
theorem scis_whole : FnScope ["thing"] ["thing"] (defScope sis_whole) := ⟨rfl, rfl, rfl, by decide +kernel, rfl, by decide +kernel, by decide +kernel⟩
/-- a whole number and no truth -/
noncomputable def spWhole : Sp := fun vs H Q _ => ∃ (i : Int), vs = [.int i] ∧ Q (.bl true) H
theorem ok_whole (B : Blt mg) (T : TxtD K mg "is_whole" sis_whole ["thing"]) : Dfn P w K mg base 1 "is_whole" ["thing"] spWhole := by
  refine T.ok scis_whole (fun vs H Q E h => ?_) (fun f cdv A outer s H vs Q E hr h => ?_)
  · obtain ⟨a, rfl, _⟩ := h
    rfl
  obtain ⟨i, rfl, q⟩ := h
  refine ⟨_, (pss_one (ps_ret (pe_and (pe_callB call_isi (by rfl) B.isinstance boot_isinstance (pa_cons (pv 0) (pa_cons (pe_ty B.int boot_int) pa_nil))) (pe_one (pe_not (pe_callB call_isi (by rfl) B.isinstance boot_isinstance (pa_cons (pv 0) (pa_cons (pe_ty B.bool boot_bool) pa_nil)))))))), ?_⟩
  refine ⟨_, rfl, _, _, "int", true, rfl, rfl, rfl, _, rfl, ?_⟩
  refine iteT ?_
  exact ⟨_, rfl, _, _, "int", false, rfl, rfl, rfl, _, rfl, q⟩
noncomputable abbrev scommon_divisor : Stmt := top 14
theorem sccommon_divisor : FnScope ["one", "other", "rest"] ["one", "other"] (defScope scommon_divisor) := ⟨rfl, rfl, rfl, by decide +kernel, rfl, by decide +kernel, by decide +kernel⟩
theorem ok_common (B : Blt mg) (T : TxtD K mg "common_divisor" scommon_divisor ["one", "other"]) : Dfn P w K mg base 1 "common_divisor" ["one", "other"] spGcd := by
  refine T.ok sccommon_divisor (fun vs H Q E h => ?_) (fun f cdv A outer s H vs Q E hr h => ?_)
  · obtain ⟨a, b, rfl, _⟩ := h
    rfl
  obtain ⟨a, b, rfl, q⟩ := h
  refine ⟨_, (pss_cons (ps_while PassesOwn.never (pt_cmpR op_ne (pv 1) pe_int (nomark _))
        (pss_cons (ps_set (i := 2) sccommon_divisor.nd rfl (Or.inl rfl) (pe_op op_modN (pv 0) (pv 1)))
        (pss_cons (ps_set (i := 0) sccommon_divisor.nd rfl (Or.inl rfl) (pv 1))
        (pss_one (ps_set (i := 1) sccommon_divisor.nd rfl (Or.inl rfl) (pv 2))))))
      (pss_one (ps_ret (pe_callB call_abs (by rfl) B.abs boot_abs (pa_cons (pv 0) pa_nil))))), ?_⟩
  refine ⟨fun m σ H' => H' = H ∧ ∃ (x y : Int) (r : Option V), σ = [some (.int x), some (.int y), r] ∧ Int.gcd x y = Int.gcd a b ∧ m = y.natAbs, ⟨_, rfl, _, _, _, rfl, rfl, rfl⟩, ?_⟩
  rintro m σ H' ⟨rfl, x, y, r, rfl, hg, rfl⟩
  walk_at "rd"
  refine ite2 (fun c => ?_) (fun c => ?_)
  · have c' : y ≠ 0 := fun e => by subst e; simp at c
    refine ⟨fun σ' H'' => H'' = H' ∧ ∃ r', σ' = [some (.int y), some (.int (x.fmod y)), r'], ?_, ?_⟩
    · rintro σ' H'' ⟨rfl, r', rfl⟩
      exact ⟨(x.fmod y).natAbs, fmod_lt c', rfl, _, _, _, rfl, by rw [gcd_fmod x y]; exact hg, rfl⟩
    · walk_at "rd"
      refine ⟨c', ?_⟩
      walk_at "rd"
      first | exact ⟨_, rfl⟩ | exact ⟨rfl, _, rfl⟩ | skip
  · have e : y = 0 := by
      by_cases e : y = 0
      · exact e
      · exact absurd (show (!decide (V.int y = V.int 0)) = true by simp [e]) c
    subst e
    refine ⟨_, rfl, _, rfl, ?_⟩
    rw [abs_if]
    have e2 : Int.gcd a b = x.natAbs := by rw [← hg, Int.gcd_zero_right]
    rw [e2] at q
    exact q
/-- top over bottom in lowest terms, a new tuple; the divisor of both has at most 9000 bits -/
noncomputable def spLowG (K : PySem.W.Frag) : Sp := fun vs H Q _ => ∃ (t b : Int), vs = [.int t, .int b] ∧ b ≠ 0 ∧ bits (sgcd t b) ≤ 9000 ∧ ∀ (p : Addr) (H' : Hp), Same H H' → FracT K H' p (Rat.divInt t b) → Q (.ref p) H'
noncomputable abbrev sfraction : Stmt := top 15
theorem scfraction : FnScope ["top", "bottom", "shared"] ["top", "bottom"] (defScope sfraction) := ⟨rfl, rfl, rfl, by decide +kernel, rfl, by decide +kernel, by decide +kernel⟩
theorem ok_fraction (Dw : Dfn P w K mg base 1 "is_whole" ["thing"] spWhole) (Dc : Dfn P w K mg base 1 "common_divisor" ["one", "other"] spGcd) (T : TxtD K mg "fraction" sfraction ["top", "bottom"]) : Dfn P w K mg base 2 "fraction" ["top", "bottom"] (spLowG K) := by
  refine T.ok scfraction (fun vs H Q E h => ?_) (fun f cdv A outer s H vs Q E hr h => ?_)
  · obtain ⟨a, b, rfl, _⟩ := h
    rfl
  obtain ⟨a, b, rfl, hb, hz, q⟩ := h
  refine ⟨_, (pss_cons (ps_if (PW.pt (pw_or (pt_not (pt_val (pe_callD Dw hr (pa_cons (pv 0) pa_nil)))) (pw_or1 (pt_not (pt_val (pe_callD Dw hr (pa_cons (pv 1) pa_nil)))))))
        (pss_one ps_never)
        pss_nil)
      (pss_cons (ps_if (pt_cmpR op_eq (pv 1) pe_int (nomark _))
        (pss_one ps_never)
        pss_nil)
      (pss_cons (ps_set (i := 2) scfraction.nd rfl (Or.inl rfl) (pe_callD Dc hr (pa_cons (pv 0) (pa_cons (pv 1) pa_nil))))
      (pss_cons (ps_if (pt_cmpR op_lt (pv 1) pe_int (nomark _))
        (pss_one (ps_set (i := 2) scfraction.nd rfl (Or.inl rfl) (pe_un un_neg (pv 2))))
        pss_nil)
      (pss_one (ps_ret (pe_tup (pa_cons (pe_op op_fdivB (pv 0) (pv 2)) (pa_cons (pe_op op_fdivB (pv 1) (pv 2)) pa_nil))))))))), ?_⟩
  refine ⟨_, rfl, _, rfl, _, rfl, ?_⟩
  refine iteF ?_
  refine ⟨_, rfl, _, rfl, _, rfl, ?_⟩
  refine iteF ?_
  refine ⟨_, rfl, rfl, _, rfl, ?_⟩
  rw [decide_eq_false (show ¬ V.int b = V.int 0 from fun e => hb (V.int.inj e))]
  refine iteF ?_
  refine ⟨_, rfl, _, rfl, _, _, rfl, ?_⟩
  walk_at "rd"
  have fin : ∀ p, H p = none → Q (.ref p) (upd H p (.tup [.int (a.fdiv (sgcd a b)), .int (b.fdiv (sgcd a b))])) := fun p hp => by
    rw [fdiv_num hb, fdiv_den hb]
    exact q p _ (same_new hp _) sqT_new
  have hd : CDivB a (sgcd a b) := ⟨sgcd_ne hb, hz⟩
  have hd2 : CDivB b (sgcd a b) := ⟨sgcd_ne hb, hz⟩
  refine ite2 (fun c => ?_) (fun c => ?_)
  · have c' := of_decide_eq_true c
    have e : sgcd a b = -((Int.gcd a b : Nat) : Int) := if_pos c'
    rw [e] at fin hd hd2
    walk_at "rd"
    refine ⟨hd, ?_⟩
    walk_at "rd"
    refine ⟨hd2, small (by show 2 ≤ 1000; decide), fin⟩
  · have c' := of_decide_eq_false (Bool.eq_false_iff.mpr c)
    have e : sgcd a b = ((Int.gcd a b : Nat) : Int) := if_neg c'
    rw [e] at fin hd hd2
    walk_at "rd"
    refine ⟨hd, ?_⟩
    walk_at "rd"
    refine ⟨hd2, small (by show 2 ≤ 1000; decide), fin⟩
/-- two fractions in, one out -/
noncomputable def spOp2 (K : PySem.W.Frag) (f : Rat → Rat → Rat) : Sp := fun vs H Q _ => ∃ (a b : Addr) (q r : Rat) (m n : Nat), vs = [.ref a, .ref b] ∧ FracT K H a q ∧ FracT K H b r ∧ Sm m q ∧ Sm n r ∧ m + n ≤ 9000 ∧ ∀ (p : Addr) (H' : Hp), Same H H' → FracT K H' p (f q r) → Q (.ref p) H'
/-- two fractions in, their sum out; the second one's bottom has at most 4500 bits -/
noncomputable def spPlusG (K : PySem.W.Frag) : Sp := fun vs H Q _ => ∃ (a b : Addr) (q r : Rat) (m n : Nat), vs = [.ref a, .ref b] ∧ FracT K H a q ∧ FracT K H b r ∧ Sm m q ∧ Sm n r ∧ n ≤ 4500 ∧ m ≤ 1000000 ∧ ∀ (p : Addr) (H' : Hp), Same H H' → FracT K H' p (q + r) → Q (.ref p) H'
noncomputable abbrev splus : Stmt := top 16
theorem scplus : FnScope ["one", "other"] ["one", "other"] (defScope splus) := ⟨rfl, rfl, rfl, by decide +kernel, rfl, by decide +kernel, by decide +kernel⟩
theorem ok_plus (Df : Dfn P w K mg base 2 "fraction" ["top", "bottom"] (spLowG K)) (T : TxtD K mg "plus" splus ["one", "other"]) : Dfn P w K mg base 3 "plus" ["one", "other"] (spPlusG K) := by
  refine T.ok scplus (fun vs H Q E h => ?_) (fun f cdv A outer s H vs Q E hr h => ?_)
  · obtain ⟨a, b, q, r, m, n, rfl, _⟩ := h
    rfl
  obtain ⟨a, b, q, r, m, n, rfl, fa, fb, za, zb, hz, hz2, k⟩ := h
  refine ⟨_, (pss_one (ps_ret (pe_callD Df hr (pa_cons (pe_op op_add (pe_op op_mulB (pe_ix ix_tup (pv 0) pe_int (fun _ _ => rfl)) (pe_ix ix_tup (pv 1) pe_int (fun _ _ => rfl))) (pe_op op_mulB (pe_ix ix_tup (pv 1) pe_int (fun _ _ => rfl)) (pe_ix ix_tup (pv 0) pe_int (fun _ _ => rfl)))) (pa_cons (pe_op op_mulB (pe_ix ix_tup (pv 0) pe_int (fun _ _ => rfl)) (pe_ix ix_tup (pv 1) pe_int (fun _ _ => rfl))) pa_nil))))), ?_⟩
  walk_at "rd"
  refine ⟨mulOk za.num zb.den (by omega), ?_⟩
  walk_at "rd"
  refine ⟨mulOk zb.num za.den (by omega), ?_⟩
  walk_at "rd"
  refine ⟨mulOk za.den zb.den (by omega), ?_⟩
  refine ⟨_, _, rfl, mul_ne (den_ne q) (den_ne r), bits_mono (bits_sgcd_plus zb.den) (by (clear hz2; omega)), fun p H' s' f' => ?_⟩
  rw [add_div] at f'
  exact k p H' s' f'
noncomputable abbrev stimes : Stmt := top 17
theorem sctimes : FnScope ["one", "other"] ["one", "other"] (defScope stimes) := ⟨rfl, rfl, rfl, by decide +kernel, rfl, by decide +kernel, by decide +kernel⟩
theorem ok_times (Df : Dfn P w K mg base 2 "fraction" ["top", "bottom"] (spLowG K)) (T : TxtD K mg "times" stimes ["one", "other"]) : Dfn P w K mg base 3 "times" ["one", "other"] (spOp2 K fun q r => q * r) := by
  refine T.ok sctimes (fun vs H Q E h => ?_) (fun f cdv A outer s H vs Q E hr h => ?_)
  · obtain ⟨a, b, q, r, m, n, rfl, _⟩ := h
    rfl
  obtain ⟨a, b, q, r, m, n, rfl, fa, fb, za, zb, hz, k⟩ := h
  refine ⟨_, (pss_one (ps_ret (pe_callD Df hr (pa_cons (pe_op op_mulB (pe_ix ix_tup (pv 0) pe_int (fun _ _ => rfl)) (pe_ix ix_tup (pv 1) pe_int (fun _ _ => rfl))) (pa_cons (pe_op op_mulB (pe_ix ix_tup (pv 0) pe_int (fun _ _ => rfl)) (pe_ix ix_tup (pv 1) pe_int (fun _ _ => rfl))) pa_nil))))), ?_⟩
  walk_at "rd"
  refine ⟨mulOk za.num zb.num (by omega), ?_⟩
  walk_at "rd"
  refine ⟨mulOk za.den zb.den (by omega), ?_⟩
  refine ⟨_, _, rfl, mul_ne (den_ne q) (den_ne r), bits_mono (bits_sgcd (mul_ne (den_ne q) (den_ne r)) (CH.bits_mul za.den zb.den)) hz, fun p H' s' f' => ?_⟩
  rw [mul_div] at f'
  exact k p H' s' f'
noncomputable abbrev sless : Stmt := top 19
theorem scless : FnScope ["one", "other"] ["one", "other"] (defScope sless) := ⟨rfl, rfl, rfl, by decide +kernel, rfl, by decide +kernel, by decide +kernel⟩
noncomputable def spLess (K : PySem.W.Frag) : Sp := fun vs H Q _ => ∃ (a b : Addr) (a0 a1 b0 b1 : Int), vs = [.ref a, .ref b] ∧ SqT K H a [.int a0, .int a1] ∧ SqT K H b [.int b0, .int b1] ∧ IntMulOk a0 b1 ∧ IntMulOk b0 a1 ∧ Q (.bl (decide (a0 * b1 < b0 * a1))) H
theorem ok_less (T : TxtD K mg "less" sless ["one", "other"]) : Dfn P w K mg base 1 "less" ["one", "other"] (spLess K) := by
  refine T.ok scless (fun vs H Q E h => ?_) (fun f cdv A outer s H vs Q E hr h => ?_)
  · obtain ⟨a, b, a0, a1, b0, b1, rfl, _⟩ := h
    rfl
  obtain ⟨a, b, a0, a1, b0, b1, rfl, h1, h2, h3, h4, q⟩ := h
  refine ⟨_, (pss_one (ps_ret (pe_cmpR op_lt (pe_op op_mulB (pe_ix ix_tup (pv 0) pe_int (fun _ _ => rfl)) (pe_ix ix_tup (pv 1) pe_int (fun _ _ => rfl))) (pe_op op_mulB (pe_ix ix_tup (pv 1) pe_int (fun _ _ => rfl)) (pe_ix ix_tup (pv 0) pe_int (fun _ _ => rfl))) (nomark _)))), ?_⟩
  walk_at "rd"
  refine ⟨h3, ?_⟩
  walk_at "rd"
  refine ⟨h4, ?_⟩
  walk_at "rd"
  exact q
/-- which of two fractions is less -/
noncomputable def spLessR (K : PySem.W.Frag) : Sp := fun vs H Q _ => ∃ (a b : Addr) (q r : Rat) (m n : Nat), vs = [.ref a, .ref b] ∧ FracT K H a q ∧ FracT K H b r ∧ Sm m q ∧ Sm n r ∧ m + n ≤ 100000 ∧ Q (.bl (decide (q < r))) H
theorem ok_lessR (D : Dfn P w K mg base 1 "less" ["one", "other"] (spLess K)) : Dfn P w K mg base 1 "less" ["one", "other"] (spLessR K) := D.imp fun vs H Q E h => by
  obtain ⟨a, b, q, r, m, n, rfl, fa, fb, za, zb, hz, k⟩ := h
  refine ⟨a, b, _, _, _, _, rfl, fa, fb, mulOk za.num zb.den (by omega), mulOk zb.num za.den (by omega), ?_⟩
  rw [rat_lt]
  exact k
end
end Law
set_option Elab.async false
set_option linter.all false
set_option maxRecDepth 100000
set_option maxHeartbeats 4000000
local macro_rules | `(tactic| walk_at "rd") => `(tactic| repeat (first | refine ⟨_, rfl, ?_⟩ | refine ⟨_, _, rfl, rfl, ?_⟩ | refine ⟨rfl, ?_⟩ | refine ⟨_, _, _, _, rfl, rfl, by assumption, rfl, ?_⟩))
namespace Law
open PySem PySem.Spec PyProof.Rows L2 CH
section
variable {P : Program} {w : World} {K : PySem.W.Frag} {mg : Str → Option Value} {base : Heap}
noncomputable abbrev stotal : Stmt := top 18
theorem sctotal : FnScope ["some", "gathered", "one"] ["some"] (defScope stotal) := ⟨rfl, rfl, rfl, by decide +kernel, rfl, by decide +kernel, by decide +kernel⟩
/-- the sum of a list of fractions -/
noncomputable def spTotalG (K : PySem.W.Frag) : Sp := fun vs H Q _ => ∃ (a : Addr) (qs : List Rat) (n : Nat), vs = [.ref a] ∧ FrL K H a qs ∧ (∀ q ∈ qs, Sm n q) ∧ n ≤ 4500 ∧ qs.length ≤ 200 ∧ ∀ (p : Addr) (H' : Hp), Same H H' → FracT K H' p (rsum qs) → Sm ((n + 1) * qs.length + 1) (rsum qs) → Q (.ref p) H'
theorem ok_total (CNOUGHT : GlobT K mg "NOUGHT" 0 1) (Dplus : Dfn P w K mg base 3 "plus" ["one", "other"] (spPlusG K)) (T : TxtD K mg "total" stotal ["some"]) : Dfn P w K mg base 4 "total" ["some"] (spTotalG K) := by
  refine T.ok sctotal (fun vs H Q E h => ?_) (fun f cdv A outer s H vs Q E hr h => ?_)
  · obtain ⟨a, qs, n, rfl, _⟩ := h
    rfl
  obtain ⟨a, qs, n, rfl, ⟨xs, hS, hA⟩, hq, hz, hz2, q⟩ := h
  have hl : xs.length = qs.length := by have := hA.length; rwa [List.length_map] at this
  refine ⟨_, (pss_cons (ps_set (i := 1) sctotal.nd rfl (Or.inl rfl) (pe_globT CNOUGHT))
      (pss_cons (ps_for PassesOwn.never rfl (pi_list (pv 0)) (pg_name (i := 2) sctotal.nd rfl (Or.inl rfl))
        (pss_one (ps_set (i := 1) sctotal.nd rfl (Or.inl rfl) (pe_callD Dplus hr (pa_cons (pv 1) (pa_cons (pv 2) pa_nil))))))
      (pss_one (ps_ret (pv 1))))), ?_⟩
  refine fun g hg => ⟨_, rfl, a, rfl, ⟨_, hS⟩, for_list (xs := xs) (fun i σ H' => Same H H' ∧ ∃ p o, σ = [some (.ref a), some (.ref p), o] ∧ FracT K H' p (rsum (qs.take i))) ⟨Same.refl _, g, _, rfl, hg⟩ (fun i σ H' _ h => h.1.seq hS) (fun i x σ H1 hx h => ?_) (fun σ H1 h => ?_)⟩
  · obtain ⟨s1, p, o, rfl, f1⟩ := h
    obtain ⟨r, px, hr', rfl, fx⟩ := (hA.same s1).fr hx
    have hi : i < qs.length := (List.getElem?_eq_some_iff.mp hr').1
    have z1 := Sm_take hq i (Nat.le_of_lt hi)
    refine ⟨_, rfl, _, rfl, _, _, _, _, _, _, rfl, f1, fx, z1, hq r (List.mem_of_getElem? hr'), hz, ?_, fun p2 H2 s2 f2 => ⟨s1.trans s2, p2, _, rfl, ?_⟩⟩
    · have : (n + 1) * i ≤ 4501 * 200 := Nat.mul_le_mul (by (clear hi hx hr' hl hz2; omega)) (by (clear hx hr' hz; omega))
      (clear hi hx hr' hl hz2 hz; omega)
    · rw [rsum_take hr']; exact f2
  · obtain ⟨s1, p, o, rfl, f1⟩ := h
    rw [hl, List.take_length] at f1
    exact ⟨_, rfl, q p H1 s1 f1 (Sm_rsum hq)⟩
noncomputable abbrev scomes_to_one : Stmt := top 21
theorem sccomes_to_one : FnScope ["row"] ["row"] (defScope scomes_to_one) := ⟨rfl, rfl, rfl, by decide +kernel, rfl, by decide +kernel, by decide +kernel⟩
noncomputable def spOne (K : PySem.W.Frag) : Sp := fun vs H Q _ => ∃ (a : Addr) (xs : List V) (ws : List Way), vs = [.ref a] ∧ SqL K H a xs ∧ Ats K H (ws.map wD) xs ∧ RowSm 4000 ws ∧ ∀ H', Same H H' → Q (.bl (decide (rsum (ws.map (·.2)) = 1))) H'
theorem ok_one (CONE : GlobT K mg "ONE" 1 1) (Dtotal : Dfn P w K mg base 4 "total" ["some"] (spTotalG K)) (T : TxtD K mg "comes_to_one" scomes_to_one ["row"]) : Dfn P w K mg base 5 "comes_to_one" ["row"] (spOne K) := by
  refine T.ok sccomes_to_one (fun vs H Q E h => ?_) (fun f cdv A outer s H vs Q E hr h => ?_)
  · obtain ⟨a, b, c, rfl, _⟩ := h
    rfl
  obtain ⟨a, xs, ws, rfl, hS, hA, hz, q⟩ := h
  refine ⟨_, (pss_one (ps_ret (pe_cmpR (eqK K (hu6 hr)) (pe_callD Dtotal hr (pa_cons (pe_comp ["room", "chance"] [] rfl (piL K (pv 0)) (fun Z nd => (pgT K (n := 2) rfl (pgs_cons (pg_name (i := 0) nd rfl (Or.inl rfl)) (pgs_cons (pg_name (i := 1) nd rfl (Or.inl rfl)) pgs_nil)))) (fun Z => pts_nil) (fun Z => (pv 1))) pa_nil)) (pe_globT CONE) (nomark _)))), ?_⟩
  have hlen := hA.len
  have hl := hz.len
  refine ⟨_, rfl, a, rfl, ⟨_, hS⟩, comp_list (xs := xs) (fun i ys H' => H' = H ∧ Ats K H (((ws.take i).map (·.2)).map frD) ys) (small1000 (by omega)) ⟨rfl, by simp [Ats]⟩ ?_ ?_ ?_⟩
  · rintro i ys H' hi ⟨rfl, h⟩
    refine ⟨hS, ?_⟩
    rw [h.len, List.length_map, List.length_take]; (clear hl; omega)
  · rintro i x ys H' hx ⟨rfl, h⟩
    obtain ⟨w', p, c, hw', rfl, ht, fc⟩ := hA.way hx
    refine ⟨p, _, rfl, ht, rfl, _, _, rfl, _, _, rfl, rfl, keep2, allT ⟨_, rfl, rfl, ?_⟩⟩
    rw [take_snoc hw', List.map_append, List.map_append]
    exact h.snoc (FracT.at fc)
  · rintro ys H' ⟨rfl, h⟩ D hD
    rw [hlen, List.take_length] at h
    have sD := same_new hD (.lst ys)
    refine ⟨D, ws.map (·.2), 4000, rfl, FrL.new hD h, fun r hr' => ?_, by decide, by rw [List.length_map]; (clear hD; omega), fun p H2 s2 f2 z2 => ?_⟩
    · obtain ⟨w', h', rfl⟩ := List.mem_map.mp hr'
      exact hz.sm w' h'
    · refine fun g hg => ⟨_, _, f2.at, (frac_one hg).at, rfl, (show 1 ≤ 50 by decide), ⟨_, rfl⟩, ?_⟩
      rw [eqD_fr]
      exact q H2 (sD.trans s2)
/-- top over bottom in lowest terms, the bottom above 0 -/
noncomputable def spLowP (K : PySem.W.Frag) : Sp := fun vs H Q _ => ∃ (t b : Int), vs = [.int t, .int b] ∧ 0 < b ∧ bits b ≤ 9000 ∧ ∀ (p : Addr) (H' : Hp), Same H H' → FracT K H' p (Rat.divInt t b) → Q (.ref p) H'
theorem low_facts {t b : Int} (hb : 0 < b) (hz : bits b ≤ 9000) : CDivP t ((Int.gcd t b : Nat) : Int) ∧ CDivP b ((Int.gcd t b : Nat) : Int) ∧ t / ((Int.gcd t b : Nat) : Int) = (Rat.divInt t b).num ∧ b / ((Int.gcd t b : Nat) : Int) = (((Rat.divInt t b).den : Nat) : Int) := by
  have e : sgcd t b = ((Int.gcd t b : Nat) : Int) := if_neg (by (clear hz; omega))
  have hg : (0 : Int) < ((Int.gcd t b : Nat) : Int) := by
    have := sgcd_ne (t := t) (b := b) (by (clear e hz; omega))
    rw [e] at this; (clear e hz hb; omega)
  have hbits := bits_sgcd (t := t) (b := b) (by (clear hg e hz; omega)) hz
  have h1 := fdiv_num (t := t) (b := b) (by (clear hbits hg e hz; omega))
  have h2 := fdiv_den (t := t) (b := b) (by (clear h1 hbits hg e hz; omega))
  rw [e] at hbits h1 h2
  rw [Int.fdiv_eq_ediv_of_nonneg _ (Int.le_of_lt hg)] at h1 h2
  exact ⟨⟨hg, hbits⟩, ⟨hg, hbits⟩, h1, h2⟩
noncomputable abbrev sL_lowest : Stmt := top 33
theorem scL_lowest : FnScope ["_law_top", "_law_bottom", "_law_one", "_law_other", "_law_rest"] ["_law_top", "_law_bottom"] (defScope sL_lowest) := ⟨rfl, rfl, rfl, by decide +kernel, rfl, by decide +kernel, by decide +kernel⟩
theorem ok_lowest (B : Blt mg) (T : TxtD K mg "_law_lowest" sL_lowest ["_law_top", "_law_bottom"]) : Dfn P w K mg base 1 "_law_lowest" ["_law_top", "_law_bottom"] (spLowP K) := by
  refine T.ok scL_lowest (fun vs H Q E h => ?_) (fun f cdv A outer s H vs Q E hr h => ?_)
  · obtain ⟨a, b, rfl, _⟩ := h
    rfl
  obtain ⟨t, b, rfl, hb, hz, q⟩ := h
  refine ⟨_, (pss_cons (ps_set (i := 2) scL_lowest.nd rfl (Or.inl rfl) (pe_callB call_abs (by rfl) B.abs boot_abs (pa_cons (pv 0) pa_nil)))
      (pss_cons (ps_set (i := 3) scL_lowest.nd rfl (Or.inl rfl) (pv 1))
      (pss_cons (ps_while PassesOwn.never (pt_cmpR op_gt (pv 3) pe_int (nomark _))
        (pss_cons (ps_set (i := 4) scL_lowest.nd rfl (Or.inl rfl) (pe_op op_mod (pv 2) (pv 3)))
        (pss_cons (ps_set (i := 2) scL_lowest.nd rfl (Or.inl rfl) (pv 3))
        (pss_one (ps_set (i := 3) scL_lowest.nd rfl (Or.inl rfl) (pv 4))))))
      (pss_one (ps_ret (pe_tup (pa_cons (pe_op op_fdivP (pv 0) (pv 2)) (pa_cons (pe_op op_fdivP (pv 1) (pv 2)) pa_nil)))))))), ?_⟩
  obtain ⟨f1, f2, f3, f4⟩ := low_facts (t := t) hb hz
  refine ⟨_, rfl, _, rfl, _, rfl, fun m σ H' => H' = H ∧ ∃ (x y : Int) (r : Option V), σ = [some (.int t), some (.int b), some (.int x), some (.int y), r] ∧ 0 ≤ x ∧ 0 ≤ y ∧ Int.gcd x y = Int.gcd t b ∧ m = y.natAbs, ⟨_, rfl, _, _, _, rfl, by rw [abs_if]; (clear f4 f3 hz hb; omega), Int.le_of_lt hb, by rw [abs_if]; unfold Int.gcd; rw [Int.natAbs_natCast], rfl⟩, ?_⟩
  rintro m σ H' ⟨rfl, x, y, r, rfl, hx, hy, hg, rfl⟩
  refine ⟨_, rfl, _, _, rfl, rfl, _, rfl, ?_⟩
  refine ite2 (fun c => ?_) (fun c => ?_)
  · have c' : 0 < y := of_decide_eq_true c
    refine ⟨fun σ' H'' => H'' = H' ∧ ∃ r', σ' = [some (.int t), some (.int b), some (.int y), some (.int (x % y)), r'], ?_, ?_⟩
    · rintro σ' H'' ⟨rfl, r', rfl⟩
      have h1 := Int.emod_nonneg x (show y ≠ 0 by (clear c hg hy hx f4 f3 hz hb; omega))
      have h2 := Int.emod_lt_of_pos x c'
      exact ⟨(x % y).natAbs, by (clear c hg hy hx f4 f3 hz hb; omega), rfl, _, _, _, rfl, by (clear h2 h1 c' c hg hx f4 f3 hz hb; omega), by (clear h2 c' c hg hy hx f4 f3 hz hb; omega), by rw [gcd_emod x y (by (clear h2 h1 c' c hg hx f4 f3 hz hb; omega))]; exact hg, rfl⟩
    · exact ⟨_, rfl, _, rfl, _, _, rfl, rfl, c', _, rfl, _, rfl, rfl, _, rfl⟩
  · have c' : ¬ 0 < y := of_decide_eq_false (Bool.eq_false_iff.mpr c)
    have e : y = 0 := by (clear c hg hx f4 f3 hz hb; omega)
    subst e
    have e2 : x = ((Int.gcd t b : Nat) : Int) := by rw [← hg, Int.gcd_zero_right]; (clear c' c hg hy f4 f3 hz hb; omega)
    subst e2
    refine ⟨_, rfl, _, rfl, _, _, rfl, rfl, f1, _, rfl, _, rfl, _, _, rfl, rfl, f2, small (by show 2 ≤ 1000; decide), fun p hp => ?_⟩
    refine q p _ (same_new hp _) ?_
    show SqT K _ p [.int (Rat.divInt t b).num, .int (((Rat.divInt t b).den : Nat) : Int)]
    rw [← f3, ← f4]
    exact sqT_new
noncomputable abbrev sL_cost : Stmt := top 34
theorem scL_cost : FnScope ["_law_cell", "_law_number"] ["_law_cell"] (defScope sL_cost) := ⟨rfl, rfl, rfl, by decide +kernel, rfl, by decide +kernel, by decide +kernel⟩
/-- some cost -/
noncomputable def spCost (K : PySem.W.Frag) : Sp := fun vs H Q _ => ∃ (c : Int), vs = [.int c] ∧ ∀ (p : Addr) (H' : Hp) (q : Rat), Same H H' → FracT K H' p q → Sm 40 q → ¬ q < 0 → Q (.ref p) H'
theorem ok_cost (DLlowest : Dfn P w K mg base 2 "_law_lowest" ["_law_top", "_law_bottom"] (spLowP K)) (T : TxtD K mg "_law_cost" sL_cost ["_law_cell"]) : Dfn P w K mg base 3 "_law_cost" ["_law_cell"] (spCost K) := by
  refine T.ok scL_cost (fun vs H Q E h => ?_) (fun f cdv A outer s H vs Q E hr h => ?_)
  · obtain ⟨c, rfl, _⟩ := h
    rfl
  obtain ⟨c, rfl, q⟩ := h
  refine ⟨_, (pss_cons (ps_if (pt_cmpR op_eq (pe_op op_mod (pv 0) pe_int) pe_int (nomark _))
        (pss_one (ps_ret (pe_tup (pa_cons pe_int (pa_cons pe_int pa_nil)))))
        pss_nil)
      (pss_cons (ps_set (i := 1) scL_cost.nd rfl (Or.inl rfl) (pe_op op_mod (pe_op op_mulB (pv 0) pe_int) pe_int))
      (pss_cons (ps_if (pt_cmpR op_eq (pe_op op_mod (pv 0) pe_int) pe_int (nomark _))
        (pss_one (ps_ret (pe_callD DLlowest hr (pa_cons (pv 1) (pa_cons (pe_op op_add pe_int (pe_op op_mod (pe_op op_mulB (pv 0) pe_int) pe_int)) pa_nil)))))
        pss_nil)
      (pss_one (ps_ret (pe_callD DLlowest hr (pa_cons (pe_op op_mod (pv 1) pe_int) (pa_cons (pe_op op_add pe_int (pe_op op_mod (pe_op op_fdivP (pv 1) pe_int) pe_int)) pa_nil)))))))), ?_⟩
  refine ⟨_, rfl, _, _, rfl, rfl, (by decide : (0 : Int) < 5), rfl, _, rfl, ?_⟩
  refine ite2 (fun _ => ?_) (fun _ => ?_)
  · refine ⟨small (by show 2 ≤ 1000; decide), fun t ht => ?_⟩
    exact q t _ 0 (same_new ht _) sqT_new (Sm0.mono (by decide)) (by decide)
  have n0 := Int.emod_nonneg (c * 48271) (show (999999937 : Int) ≠ 0 by decide)
  have n1 := Int.emod_lt_of_pos (c * 48271) (show (0 : Int) < 999999937 by decide)
  refine ⟨_, rfl, _, _, rfl, rfl, .of_right (by decide), _, _, rfl, rfl, (by decide : (0 : Int) < 999999937), ?_⟩
  refine ⟨_, rfl, _, _, rfl, rfl, (by decide : (0 : Int) < 5), rfl, _, rfl, ?_⟩
  refine ite2 (fun _ => ?_) (fun _ => ?_)
  · have e0 := Int.emod_nonneg (c * 69621) (show (999999929 : Int) ≠ 0 by decide)
    have e1 := Int.emod_lt_of_pos (c * 69621) (show (0 : Int) < 999999929 by decide)
    have bb : bits (1 + c * 69621 % 999999929) ≤ 31 := bits_of_lt (by (clear e1 n1 n0; omega)) (by (clear e1 n1 n0; omega))
    have bt : bits (c * 48271 % 999999937) ≤ 31 := bits_of_lt (by (clear bb e1 e0 n1; omega)) (by (clear bb e1 e0 n1; omega))
    exact ⟨_, rfl, _, rfl, _, _, rfl, rfl, .of_right (by decide), _, _, rfl, rfl, (by decide : (0 : Int) < 999999929), _, _, rfl, rfl, _, _, rfl, by show 0 < 1 + c * 69621 % 999999929; (clear bt bb e1 n1 n0; omega), bits_mono bb (by decide), fun p H1 s1 f1 => q p H1 _ s1 f1 ((Sm.divInt (by (clear bt bb e1 n1 n0; omega)) bt bb).mono (by decide)) (divInt_nonneg n0 (by (clear bt bb e1 n1 n0; omega)))⟩
  · have e0 := Int.emod_nonneg (c * 48271 % 999999937 / 30) (show (8 : Int) ≠ 0 by decide)
    have e1 := Int.emod_lt_of_pos (c * 48271 % 999999937 / 30) (show (0 : Int) < 8 by decide)
    have t0 := Int.emod_nonneg (c * 48271 % 999999937) (show (30 : Int) ≠ 0 by decide)
    have t1 := Int.emod_lt_of_pos (c * 48271 % 999999937) (show (0 : Int) < 30 by decide)
    have bb : bits (1 + c * 48271 % 999999937 / 30 % 8) ≤ 31 := bits_of_lt (by (clear t1 t0 e1 n1 n0; omega)) (by (clear t1 t0 e1 n1 n0; omega))
    have bt : bits (c * 48271 % 999999937 % 30) ≤ 31 := bits_of_lt (by (clear bb t1 t0 e1 e0 n1 n0; omega)) (by (clear bb t1 t0 e1 e0 n1 n0; omega))
    exact ⟨_, rfl, _, _, rfl, rfl, (by decide : (0 : Int) < 30), _, rfl, _, _, rfl, rfl, ⟨by decide, by decide⟩, _, _, rfl, rfl, (by decide : (0 : Int) < 8), _, _, rfl, rfl, _, _, rfl, by show 0 < 1 + c * 48271 % 999999937 / 30 % 8; (clear bt bb t1 t0 e1 n1 n0; omega), bits_mono bb (by decide), fun p H1 s1 f1 => q p H1 _ s1 f1 ((Sm.divInt (by (clear bt bb t1 t0 e1 n1 n0; omega)) bt bb).mono (by decide)) (divInt_nonneg t0 (by (clear bt bb t1 t0 e1 n1 n0; omega)))⟩
end
end Law
set_option Elab.async false
set_option linter.all false
set_option maxRecDepth 100000
set_option maxHeartbeats 4000000
local macro_rules | `(tactic| walk_at "rd") => `(tactic| repeat (first | refine ⟨_, rfl, ?_⟩ | refine ⟨_, _, rfl, rfl, ?_⟩ | refine ⟨rfl, ?_⟩ | refine ⟨_, _, _, _, rfl, rfl, by assumption, rfl, ?_⟩))
namespace Law
open PySem PySem.Spec PyProof.Rows L2 CH
section
variable {P : Program} {w : World} {K : PySem.W.Frag} {mg : Str → Option Value} {base : Heap}
noncomputable abbrev sL_row : Stmt := top 35
theorem scL_row : FnScope ["_law_cells", "_law_many", "_law_most", "_law_weights", "_law_k", "_law_goal"] ["_law_cells", "_law_many", "_law_most"] (defScope sL_row) := ⟨rfl, rfl, rfl, by decide +kernel, rfl, by decide +kernel, by decide +kernel⟩
/-- some row, a new list -/
noncomputable def spRow (K : PySem.W.Frag) : Sp := fun vs H Q _ => ∃ (a : Addr) (cs : List Int) (many most : Int), vs = [.ref a, .int many, .int most] ∧ SqL K H a (cs.map V.int) ∧ 1 ≤ cs.length ∧ cs.length ≤ 4 ∧ 1 ≤ many ∧ many ≤ 10 ∧ 1 ≤ most ∧ most ≤ 100000000 ∧
  ∀ (p : Addr) (H' : Hp) (xs : List V) (ws : List Way), Same H H' → H p = none → H' p = some (.lst xs) → Ats K H' (ws.map wD) xs → GoodRow many.toNat ws → Q (.ref p) H'
theorem ixN_pos {n : Nat} {k : Int} (h0 : 0 ≤ k) (h1 : k < (n : Int)) : ixN n k = some k.toNat := by unfold ixN; rw [if_pos h0, if_pos h1]
theorem getD_mem {l : List Int} {j : Nat} (h : j < l.length) : l.getD j 0 ∈ l := by rw [List.getD_eq_getElem?_getD, List.getElem?_eq_getElem h]; exact List.getElem_mem h
theorem ok_row (B : Blt mg) (DLlowest : Dfn P w K mg base 2 "_law_lowest" ["_law_top", "_law_bottom"] (spLowP K)) (T : TxtD K mg "_law_row" sL_row ["_law_cells", "_law_many", "_law_most"]) : Dfn P w K mg base 3 "_law_row" ["_law_cells", "_law_many", "_law_most"] (spRow K) := by
  refine T.ok scL_row (fun vs H Q E h => ?_) (fun f cdv A outer s H vs Q E hr h => ?_)
  · obtain ⟨a, b, c, d, rfl, _⟩ := h
    rfl
  obtain ⟨a, cs, many, most, rfl, hS, c1, c4, n0, n1, M0, M1, q⟩ := h
  refine ⟨_, (pss_cons (ps_set (i := 3) scL_row.nd rfl (Or.inr rfl) (pe_op op_rep (pe_lst (pa_cons pe_int pa_nil)) (pv 1)))
      (pss_cons (ps_for PassesOwn.never rfl (pi_range1 rfl B.range (pa_cons (pe_callB (lenK K) (by rfl) B.len boot_len (pa_cons (pv 0) pa_nil)) pa_nil)) (pg_name (i := 4) scL_row.nd rfl (Or.inl rfl))
        (pss_one (ps_if (PW.pt (pw_or (pt_cmpR op_eq (pv 4) pe_int (nomark _)) (pw_or1 (pt_cmpR op_gt (pe_op op_mod (pe_ix (ixL K) (pv 0) (pv 4) (fun _ _ => rfl)) pe_int) pe_int (nomark _)))))
          (pss_cons (ps_set (i := 5) scL_row.nd rfl (Or.inl rfl) (pe_op op_mod (pe_op op_fdivP (pe_ix (ixL K) (pv 0) (pv 4) (fun _ _ => rfl)) pe_int) (pv 1)))
          (pss_one (ps_asg (pe_op op_add (pe_op op_add (pe_ix (ixL K) (pv 3) (pv 5) (fun _ _ => rfl)) pe_int) (pe_op op_mod (pe_op op_fdivP (pe_op op_fdivP (pe_ix (ixL K) (pv 0) (pv 4) (fun _ _ => rfl)) pe_int) (pv 1)) (pv 2))) (pg_sub (pv 3) (pv 5) set_list))))
          pss_nil)))
      (pss_one (ps_ret (pe_comp ["_law_goal"] [3] rfl (pi_range1 rfl B.range (pa_cons (pv 1) pa_nil)) (fun Z nd => (pg_name (i := 0) nd rfl (Or.inl rfl))) (fun Z => (pts_one (pt_cmpR op_gt (pe_ix (ixL K) (pv 1) (pv 0) (fun _ _ => rfl)) pe_int (nomark _)))) (fun Z => (pe_tup (pa_cons (pv 0) (pa_cons (pe_callD DLlowest hr (pa_cons (pe_ix (ixL K) (pv 1) (pv 0) (fun _ _ => rfl)) (pa_cons (pe_callB (call_sum K rfl) (by rfl) B.sum boot_sum (pa_cons (pv 1) pa_nil)) pa_nil))) pa_nil))))))))), ?_⟩
  refine ⟨small (by show 1 ≤ 1000; decide), fun l0 hl0 => ?_⟩
  have sl0 := same_new hl0 (.lst [.int 0])
  refine ⟨_, rfl, l0, many, [.int 0], rfl, rfl, upd_same, by (clear hl0 M1 M0 c4 c1; omega), by (clear hl0 M1 M0 c4 c1; omega), ?_, fun W hW => ?_⟩
  · have : ([V.int 0] : List V).length * many.toNat ≤ 10 := by simp; (clear hl0 M1 M0 n0 c4 c1; omega)
    exact Nat.le_trans this (small (by decide))
  have sW := same_new hW (.lst (List.replicate many.toNat [V.int 0]).flatten)
  have hW1 : H W = none := sl0.free hW
  have s0W := sl0.trans sW
  have hcl : (cs.map V.int).length = cs.length := List.length_map _
  refine ⟨_, rfl, _, _, rfl, .inl (s0W.seq hS), _, rfl, by (clear hW1 hW hl0 M1 M0 n1 n0; omega), by (clear hW1 hW hl0 M1 M0 n1 n0; omega), for_range (fun j σ H' => ∃ (o7 o8 : Option V) (is : List Int), σ = [some (.ref a), some (.int many), some (.int most), some (.ref W), o7, o8] ∧ Same H H' ∧ H' W = some (.lst (is.map V.int)) ∧ is.length = many.toNat ∧ (∀ x ∈ is, 0 ≤ x ∧ x ≤ (j : Int) * 100000000) ∧ (1 ≤ j → 1 ≤ is.sum)) ?_ ?_ ?_⟩
  · refine ⟨_, _, List.replicate many.toNat 0, rfl, s0W, ?_, List.length_replicate, ?_, fun h => absurd h (by decide)⟩
    · rw [← rep_ints]; exact upd_same
    · intro x hx
      rw [List.eq_of_mem_replicate hx]; exact ⟨by decide, by simp⟩
  · rintro j σ H3 hj ⟨o7', o8', is, rfl, s3, hW3, hisl, his, hpos⟩
    have hjc : j < cs.length := by (clear hisl hW3 hW1 hW hl0 M1 M0; omega)
    have hcat := at_int (ns := cs) (k := 0 + (j : Int)) (by (clear hjc hpos hisl hW3 hj hcl hW1 hW hl0 M1 M0 n1 n0 c4 c1; omega)) (by (clear hpos hisl hW3 hj hW1 hW hl0 M1 M0 n1 n0 c4 c1; omega))
    generalize hc4 : cs.getD (0 + (j : Int)).toNat 0 = c4 at hcat
    have g0 := Int.emod_nonneg (c4 / 3) (show many ≠ 0 by (clear hcat hc4 hjc hpos hisl hW3 hj hcl hW1 hW hl0 M1 M0 c1; omega))
    have g1 := Int.emod_lt_of_pos (c4 / 3) (show 0 < many by (clear g0 hcat hc4 hjc hpos hisl hW3 hj hcl hW1 hW hl0 M1 M0 c1; omega))
    have e0 := Int.emod_nonneg (c4 / 3 / many) (show most ≠ 0 by (clear g1 g0 hcat hc4 hjc hpos hisl hW3 hj hcl hW1 hW hl0 n1 n0 c1; omega))
    have e1 := Int.emod_lt_of_pos (c4 / 3 / many) (show 0 < most by (clear e0 g1 g0 hcat hc4 hjc hpos hisl hW3 hj hcl hW1 hW hl0 n1 n0 c1; omega))
    have hgl : c4 / 3 % many < (is.length : Int) := by rw [hisl]; (clear e1 e0 g0 hcat hc4 hjc hisl hW3 hj hcl hW1 hW hl0 M1 M0 c1; omega)
    have hjl : (c4 / 3 % many).toNat < is.length := by (clear e1 e0 g1 hcat hc4 hjc hpos hW3 hj hcl hW1 hW hl0 M1 M0 n1 n0 c1; omega)
    have hat := at_int (ns := is) g0 hgl
    have hix : ixN (is.map V.int).length (c4 / 3 % many) = some (c4 / 3 % many).toNat := by rw [List.length_map]; exact ixN_pos g0 hgl
    have hx0 := his _ (getD_mem hjl)
    have stay : (∀ x ∈ is, 0 ≤ x ∧ x ≤ ((j + 1 : Nat) : Int) * 100000000) := fun x hx => by
      have := his x hx
      refine ⟨this.1, Int.le_trans this.2 (Int.mul_le_mul_of_nonneg_right (by (clear this hx0 hix hat hjl hgl e1 e0 g1 g0 hcat hc4 hjc hpos hisl hW3 hj hcl hW1 hW hl0 M1 M0 n1 n0 c1; omega)) (by decide))⟩
    have hjm : ((j + 1 : Nat) : Int) * 100000000 = (j : Int) * 100000000 + 100000000 := by rw [Int.natCast_add, Int.add_mul]; rfl
    have hS3 := s3.seq hS
    refine ⟨_, rfl, rfl, _, rfl, ?_⟩
    refine (fun hb => ite2 (fun _ => hb) (fun hj0 => ⟨_, rfl, _, rfl, a, _, _, _, rfl, rfl, hS3, hcat, _, _, rfl, rfl, (by decide : (0 : Int) < 3), _, _, rfl, rfl, _, rfl, ite2 (fun _ => hb) (fun _ => ?skip)⟩)) ?body
    case skip =>
      refine ⟨_, _, is, rfl, s3, hW3, hisl, stay, fun _ => ?_⟩
      refine hpos ?_
      rcases Nat.eq_zero_or_pos j with z | z
      · subst z; exact absurd (decide_eq_true (Eq.refl (V.int 0))) hj0
      · exact z
    case body =>
      refine ⟨_, rfl, _, rfl, a, _, _, _, rfl, rfl, hS3, hcat, _, _, rfl, rfl, ⟨by decide, by decide⟩, _, rfl, _, _, rfl, rfl, (by show 0 < many; (clear hjm hx0 hix hat hjl hgl e1 e0 g1 g0 hcat hc4 hjc hpos hisl hW3 hj hcl hW1 hW hl0 M1 M0 c1; omega)), ?_⟩
      refine ⟨_, rfl, _, rfl, W, _, _, _, rfl, rfl, SqL.of hW3, hat, _, _, rfl, rfl, _, rfl, _, rfl, a, _, _, _, rfl, rfl, hS3, hcat, _, _, rfl, rfl, ⟨by decide, by decide⟩, _, rfl, _, _, rfl, rfl, ⟨by show 0 < many; (clear hjm hx0 hix hat hjl hgl e1 e0 g1 g0 hcat hc4 hjc hpos hisl hW3 hj hcl hW1 hW hl0 M1 M0 c1; omega), bits_of_lt (by (clear hjm hx0 hix hat hjl hgl e1 e0 g1 g0 hcat hc4 hjc hpos hisl hW3 hj hcl hW1 hW hl0 M1 M0 c1; omega)) (by (clear hjm hx0 hix hat hjl hgl e1 e0 g1 g0 hcat hc4 hjc hpos hisl hW3 hj hcl hW1 hW hl0 M1 M0 c1; omega))⟩, _, rfl, _, _, rfl, rfl, (by show 0 < most; (clear hjm hx0 hix hat hjl hgl e1 e0 g1 g0 hcat hc4 hjc hpos hisl hW3 hj hcl hW1 hW hl0 n1 n0 c1; omega)), _, _, rfl, rfl, _, rfl, _, rfl, W, _, _, _, rfl, rfl, hW3, hix, ?_⟩
      have hset : (is.map V.int).set (c4 / 3 % many).toNat (V.int (is.getD (c4 / 3 % many).toNat 0 + 1 + c4 / 3 / many % most)) = (is.set (c4 / 3 % many).toNat (is.getD (c4 / 3 % many).toNat 0 + 1 + c4 / 3 / many % most)).map V.int := by rw [List.map_set]
      refine ⟨_, _, is.set (c4 / 3 % many).toNat (is.getD (c4 / 3 % many).toNat 0 + 1 + c4 / 3 / many % most), rfl, same_upd s3 hW1, ?_, by rw [List.length_set]; exact hisl, fun x hx => ?_, fun _ => ?_⟩
      · rw [← hset]; exact upd_same
      · rcases List.mem_or_eq_of_mem_set hx with h | h
        · exact stay x h
        · rw [h, hjm]; (clear hset hjm hix hat hjl hgl g1 g0 hcat hc4 hpos hisl hW3 hj hW1 hW hl0 n1 n0; omega)
      · rw [sum_set hjl]
        have := (isum his).1
        (clear hset hjm hx0 hix hat hjl hgl g1 g0 hcat hc4 hjc hpos hisl hW3 hj hcl hW1 hW hl0 n1 n0 c1; omega)
  · rintro σ H3 ⟨o7', o8', is, rfl, s3, hW3, hisl, his, hpos⟩
    have hp1 : 1 ≤ is.sum := hpos (by (clear hpos hisl hW3 hW1 hW hl0 M1 M0 n1 n0; omega))
    have hb4 : ∀ x ∈ is, 0 ≤ x ∧ x ≤ 400000000 := fun x hx => by
      have := his x hx
      refine ⟨this.1, Int.le_trans this.2 ?_⟩
      have e : (((cs.map V.int).length : Int).toNat : Int) ≤ 4 := by (clear this hp1 hpos hisl hW3 hW1 hW hl0 M1 M0 n1 n0; omega)
      exact Int.le_trans (Int.mul_le_mul_of_nonneg_right e (by decide)) (by decide)
    have hsum := isum hb4
    have hsm : is.sum ≤ 4000000000 := by
      rw [hisl] at hsum
      have : ((many.toNat : Nat) : Int) * 400000000 ≤ 10 * 400000000 := Int.mul_le_mul_of_nonneg_right (by (clear hsum hp1 hisl hW3 hW1 hW hl0 M1 M0; omega)) (by decide)
      (clear hp1 hpos hW3 hcl hW1 hW hl0 M1 M0 n1 n0 c4 c1; omega)
    have bs : bits is.sum ≤ 33 := bits_of_lt (by (clear hsum hpos hisl hW3 hcl hW1 hW hl0 M1 M0 n1 n0 c4 c1; omega)) (by (clear hsum hpos hisl hW3 hcl hW1 hW hl0 M1 M0 n1 n0 c4 c1; omega))
    refine ⟨_, rfl, _, rfl, by (clear bs hsm hsum hp1 hpos hisl hW3 hcl hW1 hW hl0 M1 M0 c4 c1; omega), by (clear bs hsm hsum hp1 hpos hisl hW3 hcl hW1 hW hl0 M1 M0 c4 c1; omega), ?_⟩
    refine comp_range (fun k ys H' => Same H3 H' ∧ ys.length ≤ k ∧ ∃ ws : List Way, Ats K H' (ws.map wD) ys ∧ (∀ w ∈ ws, 0 ≤ w.1 ∧ w.1 < (k : Int) ∧ 0 < w.2 ∧ Sm 40 w.2) ∧ rsum (ws.map (·.2)) = Rat.divInt ((is.take k).sum) is.sum ∧ ws.Pairwise (fun a b => a.1 < b.1)) (small1000 (by (clear bs hsm hsum hp1 hisl hW3 hW1 hW hl0 M1 M0; omega))) ?_ (fun k ys H' _ h => h.2.1) ?_ ?_
    · refine ⟨Same.refl _, Nat.le_refl _, [], by simp [Ats], by simp, ?_, by simp⟩
      show rsum [] = Rat.divInt 0 is.sum
      rw [Rat.zero_divInt]; rfl
    · rintro k ys H4 hk ⟨s4, hly, ws, hA, hw, hsr, hpw⟩
      have hat2 := at_int (ns := is) (k := 0 + (k : Int)) (by (clear hsr hly hk bs hsm hsum hp1 hpos hisl hW3 hcl hW1 hW hl0 M1 M0 n1 n0 c4 c1; omega)) (by (clear hsr hly bs hsm hsum hp1 hpos hW3 hcl hW1 hW hl0 M1 M0 n1 n0 c4 c1; omega))
      have hD2 := s4 _ _ hW3
      have hkl : k < is.length := by (clear hD2 hat2 hsr hly bs hsm hsum hp1 hpos hW3 hcl hW1 hW hl0 M1 M0 n1 n0 c4 c1; omega)
      have ek : (0 + (k : Int)).toNat = k := by (clear hkl hD2 hat2 hsr hly hk bs hsm hsum hp1 hpos hisl hW3 hcl hW1 hW hl0 M1 M0 n1 n0 c4 c1; omega)
      have htk : (is.take (k + 1)).sum = (is.take k).sum + is.getD k 0 := by
        rw [take_snoc (List.getElem?_eq_getElem hkl), List.sum_append, List.getD_eq_getElem?_getD, List.getElem?_eq_getElem hkl]
        simp
      refine ⟨keep1, _, rfl, _, rfl, W, _, _, _, rfl, rfl, SqL.of hD2, hat2, _, _, rfl, rfl, _, rfl, ?_⟩
      rw [ek]
      have hb5 := hb4 _ (getD_mem hkl)
      refine ite2 (fun c => ?_) (fun c => ?_)
      · have c' : 0 < is.getD k 0 := of_decide_eq_true c
        have bt : bits (is.getD k 0) ≤ 33 := bits_of_lt (by (clear c htk ek hkl hD2 hat2 hsr hly hk bs hsm hsum hp1 hpos hisl hW3 hcl hW1 hW hl0 M1 M0 n1 n0 c4 c1; omega)) (by (clear c htk ek hkl hD2 hat2 hsr hly hk bs hsm hsum hp1 hpos hisl hW3 hcl hW1 hW hl0 M1 M0 n1 n0 c4 c1; omega))
        refine ⟨_, rfl, _, rfl, _, rfl, W, _, _, _, rfl, rfl, SqL.of hD2, hat2, _, rfl, W, is, rfl, SqL.of hD2, _, _, rfl, by (clear bt c' c hb5 htk ek hkl hD2 hat2 hsr hly hk bs hsum hpos hisl hW3 hcl hW1 hW hl0 M1 M0 n1 n0 c4 c1; omega), bits_mono bs (by decide), fun p H5 s5 f5 => ?_⟩
        rw [ek] at f5
        refine ⟨small (by show 2 ≤ 1000; decide), fun t ht => ?_⟩
        have st := same_new ht (.tup [.int (0 + (k : Int)), .ref p])
        have hpq : (0 : Rat) < Rat.divInt (is.getD k 0) is.sum := divInt_pos c' (by (clear ht bt c' c hb5 htk ek hkl hD2 hat2 hsr hly hk bs hsum hpos hisl hW3 hcl hW1 hW hl0 M1 M0 n1 n0 c4 c1; omega))
        refine ⟨(s4.trans s5).trans st, by rw [List.length_append]; exact Nat.succ_le_succ hly, ws ++ [(0 + (k : Int), Rat.divInt (is.getD k 0) is.sum)], ?_, ?_, ?_, ?_⟩
        · rw [List.map_append]
          exact ((hA.same s5).same st).snoc (way_at sqT_new (st.tup f5))
        · intro w' hw'
          rcases List.mem_append.mp hw' with h | h
          · have := hw w' h
            exact ⟨this.1, by (clear hpq ht bt c' c hb5 htk hkl hD2 hat2 hsr hly hk bs hsm hsum hp1 hpos hisl hW3 hcl hW1 hW hl0 M1 M0 n1 n0 c4 c1; omega), this.2.2⟩
          · rw [List.mem_singleton.mp h]
            exact ⟨by show 0 ≤ 0 + (k : Int); (clear hpq ht bt c' c hb5 htk hkl hD2 hat2 hsr hly hk bs hsm hsum hp1 hpos hisl hW3 hcl hW1 hW hl0 M1 M0 n1 n0 c4 c1; omega), by show 0 + (k : Int) < ((k + 1 : Nat) : Int); (clear hpq ht bt c' c hb5 htk ek hkl hD2 hat2 hsr hly hk bs hsm hsum hp1 hpos hisl hW3 hcl hW1 hW hl0 M1 M0 n1 n0 c4 c1; omega), hpq, (Sm.divInt (by (clear hpq ht bt c' c hb5 htk ek hkl hD2 hat2 hsr hly hk bs hsum hpos hisl hW3 hcl hW1 hW hl0 M1 M0 n1 n0 c4 c1; omega)) bt bs).mono (by decide)⟩
        · rw [List.map_append, rsum_append, hsr, htk]
          show _ + rsum [_] = _
          rw [rsum_one, divInt_sum (by (clear hpq ht bt c' c hb5 htk ek hkl hD2 hat2 hsr hly hk bs hsum hpos hisl hW3 hcl hW1 hW hl0 M1 M0 n1 n0 c4 c1; omega))]
        · rw [List.pairwise_append]
          refine ⟨hpw, by simp, fun x hx y hy => ?_⟩
          rw [List.mem_singleton.mp hy]
          have := (hw x hx).2.1
          show x.1 < 0 + (k : Int)
          (clear hpq ht bt c' c hb5 htk hkl hD2 hat2 hsr hly hk bs hsm hsum hp1 hpos hisl hW3 hcl hW1 hW hl0 M1 M0 n1 n0 c4 c1; omega)
      · have c' : ¬ 0 < is.getD k 0 := of_decide_eq_false (Bool.eq_false_iff.mpr c)
        have e0 : is.getD k 0 = 0 := by (clear c htk ek hkl hD2 hat2 hsr hly hk bs hsm hsum hp1 hpos hisl hW3 hcl hW1 hW hl0 M1 M0 n1 n0 c4 c1; omega)
        refine ⟨s4, Nat.le_succ_of_le hly, ws, hA, fun w' hw' => ?_, ?_, hpw⟩
        · have := hw w' hw'
          exact ⟨this.1, by (clear e0 c' c hb5 htk hkl hD2 hat2 hsr hly hk bs hsm hsum hp1 hpos hisl hW3 hcl hW1 hW hl0 M1 M0 n1 n0 c4 c1; omega), this.2.2⟩
        · rw [hsr, htk, e0, Int.add_zero]
    · rintro ys H4 ⟨s4, hly, ws, hA, hw, hsr, hpw⟩ D hD
      have hlen5 := hA.len
      have sD := same_new hD (.lst ys)
      have hone : rsum (ws.map (·.2)) = 1 := by
        rw [hsr, List.take_of_length_le (by (clear hlen5 hD hsr hly bs hsm hsum hp1 hpos hW3 hcl hW1 hW hl0 M1 M0 n1 n0 c4 c1; omega))]
        exact Rat.divInt_self' (by (clear hlen5 hD hsr hly bs hsum hpos hisl hW3 hcl hW1 hW hl0 M1 M0 n1 n0 c4 c1; omega))
      exact q D _ ys ws ((s3.trans s4).trans sD) ((s3.trans s4).free hD) upd_same (hA.same sD) ⟨hw, by (clear hone hD hsr bs hsm hsum hp1 hisl hW3 hW1 hW hl0 M1 M0; omega), hone, hpw⟩
end
end Law
set_option Elab.async false
set_option linter.all false
set_option maxRecDepth 100000
set_option maxHeartbeats 4000000
local macro_rules | `(tactic| walk_at "rd") => `(tactic| repeat (first | refine ⟨_, rfl, ?_⟩ | refine ⟨_, _, rfl, rfl, ?_⟩ | refine ⟨rfl, ?_⟩ | refine ⟨_, _, _, _, rfl, rfl, by assumption, rfl, ?_⟩))
namespace Law
open PySem PySem.Spec PyProof.Rows L2 CH
section
variable {P : Program} {w : World} {K : PySem.W.Frag} {mg : Str → Option Value} {base : Heap}
noncomputable abbrev sL_house : Stmt := top 36
theorem scL_house : FnScope ["_law_script", "_law_cell", "_law_many", "_law_doors", "_law_most", "_law_left", "_law_house_here", "_law_room", "_law_some", "_law_door", "_law_at", "_law_cells"] ["_law_script"] (defScope sL_house) := ⟨rfl, rfl, rfl, by decide +kernel, rfl, by decide +kernel, by decide +kernel⟩
/-- some house -/
noncomputable def spHouse (K : PySem.W.Frag) : Sp := fun vs H Q _ => ∃ (a : Addr) (ns : List Int), vs = [.ref a] ∧ SqL K H a (ns.map V.int) ∧
  ∀ (v : V) (H' : Hp) (hs : List (List Door)), Same H H' → At K H' (houseD hs) v → GoodHouse hs → Q v H'
theorem ok_house (B : Blt mg) (DLcell_at : Dfn P w K mg base 1 "_law_cell_at" ["_law_script", "_law_k"] (spCell K)) (DLcost : Dfn P w K mg base 3 "_law_cost" ["_law_cell"] (spCost K)) (DLrow : Dfn P w K mg base 3 "_law_row" ["_law_cells", "_law_many", "_law_most"] (spRow K)) (T : TxtD K mg "_law_house" sL_house ["_law_script"]) : Dfn P w K mg base 4 "_law_house" ["_law_script"] (spHouse K) := by
  refine T.ok scL_house (fun vs H Q E h => ?_) (fun f cdv A outer s H vs Q E hr h => ?_)
  · obtain ⟨a, b, rfl, _⟩ := h
    rfl
  obtain ⟨a, ns, rfl, hS, q⟩ := h
  refine ⟨_, (pss_cons (ps_set (i := 1) scL_house.nd rfl (Or.inl rfl) (pe_callD DLcell_at hr (pa_cons (pv 0) (pa_cons pe_int pa_nil))))
      (pss_cons (ps_set (i := 2) scL_house.nd rfl (Or.inl rfl) (pe_op op_add pe_int (pe_op op_mod (pv 1) pe_int)))
      (pss_cons (ps_set (i := 3) scL_house.nd rfl (Or.inl rfl) pe_int)
      (pss_mid (ps_if (pt_cmpR op_eq (pe_op op_mod (pe_op op_fdivP (pv 1) pe_int) pe_int) pe_int (nomark _))
        (pss_cons (ps_set (i := 2) scL_house.nd rfl (Or.inl rfl) pe_int)
        (pss_one (ps_set (i := 3) scL_house.nd rfl (Or.inl rfl) pe_int)))
        pss_nil)
      (pss_cons (ps_set (i := 4) scL_house.nd rfl (Or.inl rfl) pe_int)
      (pss_mid (ps_if (pt_cmpR op_eq (pe_op op_mod (pe_op op_fdivP (pv 1) pe_int) pe_int) pe_int (nomark _))
        (pss_one (ps_set (i := 4) scL_house.nd rfl (Or.inl rfl) (pe_op op_powB pe_int pe_int)))
        pss_nil)
      (pss_cons (ps_set (i := 5) scL_house.nd rfl (Or.inl rfl) (pe_callD DLcell_at hr (pa_cons (pv 0) (pa_cons pe_int pa_nil))))
      (pss_cons (ps_set (i := 6) scL_house.nd rfl (Or.inl rfl) (pe_lst pa_nil))
      (pss_cons (ps_for PassesOwn.never rfl (pi_range1 rfl B.range (pa_cons (pv 2) pa_nil)) (pg_name (i := 7) scL_house.nd rfl (Or.inl rfl))
        (pss_cons (ps_set (i := 8) scL_house.nd rfl (Or.inl rfl) (pe_lst pa_nil))
        (pss_cons (ps_for PassesOwn.never rfl (pi_range1 rfl B.range (pa_cons (pe_op op_add pe_int (pe_op op_mod (pe_op op_mod (pe_op op_mulB (pe_op op_add (pv 5) (pe_op op_mulB pe_int (pv 7))) pe_int) pe_int) (pv 3))) pa_nil)) (pg_name (i := 9) scL_house.nd rfl (Or.inl rfl))
          (pss_cons (ps_set (i := 10) scL_house.nd rfl (Or.inr rfl) (pe_op op_add pe_int (pe_op op_mulB (pe_op op_add (pe_op op_mulB (pv 7) (pv 3)) (pv 9)) (pe_op op_fdivP pe_int (pe_op op_mulB (pv 2) (pv 3))))))
          (pss_cons (ps_setC (i := 11) ["_law_k"] [0, 10] scL_house.nd rfl rfl rfl (pi_range1 rfl B.range (pa_cons (pe_callB (call_min2 rfl) (by rfl) B.min boot_min (pa_cons pe_int (pa_cons (pe_op op_fdivP pe_int (pe_op op_mulB (pv 2) (pv 3))) pa_nil))) pa_nil)) (fun Z nd => (pg_name (i := 0) nd rfl (Or.inl rfl))) (fun Z => pts_nil) (fun Z => (pe_callD DLcell_at hr (pa_cons (pv 1) (pa_cons (pe_op op_add (pv 2) (pv 0)) pa_nil)))))
          (pss_one (ps_expr (pe_bm PySem.F.plainAttrs_list PySem.F.slot_list_append PySem.F.type_list_append mt_append (pv 8) (pa_cons (pe_tup (pa_cons (pe_callD DLcost hr (pa_cons (pe_ix (ixL K) (pv 11) (pe_un un_neg pe_int) (fun _ _ => rfl)) pa_nil)) (pa_cons (pe_callD DLrow hr (pa_cons (pv 11) (pa_cons (pv 2) (pa_cons (pv 4) pa_nil)))) pa_nil))) pa_nil)))))))
        (pss_one (ps_expr (pe_bm PySem.F.plainAttrs_list PySem.F.slot_list_append PySem.F.type_list_append mt_append (pv 6) (pa_cons (pv 8) pa_nil)))))))
      (pss_one (ps_ret (pv 6)))))))))))), ?_⟩
  refine ⟨_, rfl, _, _, _, rfl, hS, by decide, ?_⟩
  refine ⟨_, rfl, _, _, rfl, rfl, (by decide : (0 : Int) < 4), _, _, rfl, rfl, ?_⟩
  refine ⟨fun σ H' => H' = H ∧ ∃ many doors : Int, σ = [some (.ref a), some (.int (ns.getD 0 0)), some (.int many), some (.int doors), none, none, none, none, none, none, none, none] ∧ 1 ≤ many ∧ many ≤ 10 ∧ 1 ≤ doors ∧ doors ≤ 4 ∧ 1 ≤ many * doors ∧ many * doors ≤ 20, ?_, ?_⟩
  · refine ⟨_, rfl, _, _, rfl, rfl, ⟨by decide, by decide⟩, _, _, rfl, rfl, (by decide : (0 : Int) < 8), rfl, _, rfl, ?_⟩
    refine ite2 (fun _ => ?_) (fun _ => ?_)
    · exact ⟨rfl, _, _, rfl, by decide, by decide, by decide, by decide, by decide, by decide⟩
    · have m0 := Int.emod_nonneg (ns.getD 0 0) (show (4 : Int) ≠ 0 by decide)
      have m1 := Int.emod_lt_of_pos (ns.getD 0 0) (show (0 : Int) < 4 by decide)
      exact ⟨rfl, 1 + ns.getD 0 0 % 4, 4, rfl, by (clear m1; omega), by (clear m1; omega), by decide, by decide, by (clear m1; omega), by (clear m1; omega)⟩
  rintro σ H0 ⟨rfl, many, doors, rfl, n0, n1, d0, d1, p0, p1⟩
  refine ⟨fun σ H' => H' = H0 ∧ ∃ most : Int, σ = [some (.ref a), some (.int (ns.getD 0 0)), some (.int many), some (.int doors), some (.int most), none, none, none, none, none, none, none] ∧ 1 ≤ most ∧ most ≤ 100000000, ?_, ?_⟩
  · refine ⟨_, rfl, _, _, rfl, rfl, ⟨by decide, by decide⟩, _, _, rfl, rfl, (by decide : (0 : Int) < 4), rfl, _, rfl, ?_⟩
    refine ite2 (fun _ => ?_) (fun _ => ?_)
    · exact ⟨_, _, rfl, rfl, ⟨by decide, by decide⟩, rfl, _, rfl, by decide +kernel, by decide +kernel⟩
    · exact ⟨rfl, _, rfl, by decide, by decide⟩
  rintro σ H1 ⟨e1, most, rfl, M0, M1⟩
  subst e1
  refine ⟨_, rfl, _, _, _, rfl, hS, by decide, ?_⟩
  generalize ns.getD (1 : Int).toNat 0 = left
  refine ⟨small (by decide), fun l hl => ?_⟩
  have sl := same_new hl (.lst [])
  have q48 : 2 ≤ 48 / (many * doors) ∧ 48 / (many * doors) ≤ 48 := by
    have h1 : (2 : Int) ≤ 48 / (many * doors) := (Int.le_ediv_iff_mul_le (by (clear hl M1 M0 d1 d0 n1 n0; omega))).mpr (by (clear hl M1 M0 d1 d0 n1 n0; omega))
    exact ⟨h1, Int.ediv_le_self _ (by decide)⟩
  have cd48 : CDivP 48 (many * doors) := ⟨by (clear q48 hl M1 M0 d1 d0 n1 n0; omega), bits_of_lt (by (clear q48 hl M1 M0 d1 d0 n1 n0; omega)) (by (clear q48 hl M1 M0 d1 d0 n1 n0; omega))⟩
  have bm : bits many ≤ 4 := bits_of_lt (by (clear q48 hl M1 M0 p1 p0 d1 d0; omega)) (by (clear q48 hl M1 M0 p1 p0 d1 d0; omega))
  have bd : bits doors ≤ 3 := bits_of_lt (by (clear bm q48 hl M1 M0 p1 p0 n1 n0; omega)) (by (clear bm q48 hl M1 M0 p1 p0 n1 n0; omega))
  refine ⟨_, rfl, _, rfl, by (clear bd bm q48 hl M1 M0 p1 p0 d1 d0; omega), by (clear bd bm q48 hl M1 M0 p1 p0 d1 d0; omega), for_range (fun i σ H' => ∃ (o7 o8 o9 o10 o11 : Option V) (vs : List V) (hs : List (List Door)), σ = [some (.ref a), some (.int (ns.getD 0 0)), some (.int many), some (.int doors), some (.int most), some (.int left), some (.ref l), o7, o8, o9, o10, o11] ∧ Same H1 H' ∧ H' l = some (.lst vs) ∧ Ats K (remL H' [l]) (hs.map doorsD) vs ∧ hs.length = i ∧
      ∀ ds ∈ hs, (1 ≤ ds.length ∧ ds.length ≤ 4) ∧ ∀ d ∈ ds, (¬ d.1 < 0 ∧ Sm 40 d.1) ∧ GoodRow many.toNat d.2) ?_ ?_ ?_⟩
  · exact ⟨_, _, _, _, _, [], [], rfl, sl, upd_same, by simp [Ats], rfl, by simp⟩
  · rintro i σ H2 hi ⟨o7, o8, o9, o10, o11, vs, hs, rfl, s2, h2l, hA, hlen, hok⟩
    refine ⟨small (by decide), fun sm hsm => ?_⟩
    have ssm := same_new hsm (.lst [])
    have hsl : sm ≠ l := fun e => by subst e; rw [h2l] at hsm; cases hsm
    have hsm1 : H1 sm = none := s2.free hsm
    have k0 := Int.emod_nonneg ((left + 3 * (0 + (i : Int))) * 48271 % 99991) (show doors ≠ 0 by (clear hsm1 hsl hsm hlen h2l hi bd bm q48 hl M1 M0 p1 p0 n1 n0; omega))
    have k1 := Int.emod_lt_of_pos ((left + 3 * (0 + (i : Int))) * 48271 % 99991) (show 0 < doors by (clear k0 hsm1 hsl hsm hlen h2l hi bd bm q48 hl M1 M0 p1 p0 n1 n0; omega))
    refine ⟨_, rfl, _, rfl, _, _, rfl, rfl, .of_left (by decide), _, _, rfl, rfl, _, _, rfl, rfl, .of_right (by decide), _, _, rfl, rfl, (by decide : (0 : Int) < 99991), _, rfl, _, _, rfl, rfl, (by show 0 < doors; (clear k1 k0 hsm1 hsl hsm hlen h2l hi bd bm q48 hl M1 M0 p1 p0 n1 n0; omega)), _, _, rfl, rfl, _, rfl, by (clear k1 hsm1 hsl hsm hlen h2l hi bd bm q48 hl M1 M0 p1 p0 d1 d0 n1 n0; omega), by (clear k0 hsm1 hsl hsm hlen h2l hi bd bm q48 hl M1 M0 p1 p0 n1 n0; omega), ?_⟩
    generalize hcount : 1 + (left + 3 * (0 + (i : Int))) * 48271 % 99991 % doors = count at *
    have hA2 : Ats K (remL (upd H2 sm (.lst [])) [l]) (hs.map doorsD) vs := hA.same (same_rem ssm)
    refine for_range (fun j σ H' => ∃ (o9 o10 o11 : Option V) (us : List V) (ds : List Door), σ = [some (.ref a), some (.int (ns.getD 0 0)), some (.int many), some (.int doors), some (.int most), some (.int left), some (.ref l), some (.int (0 + (i : Int))), some (.ref sm), o9, o10, o11] ∧ Same H1 H' ∧ H' l = some (.lst vs) ∧ Ats K (remL H' [l, sm]) (hs.map doorsD) vs ∧ H' sm = some (.lst us) ∧ Ats K (remL H' [l, sm]) (ds.map doorD) us ∧ ds.length = j ∧ ∀ d ∈ ds, (¬ d.1 < 0 ∧ Sm 40 d.1) ∧ GoodRow many.toNat d.2) ?_ ?_ ?_
    · refine ⟨_, _, _, [], [], rfl, s2.trans ssm, ssm _ _ h2l, ?_, upd_same, by simp [Ats], rfl, by simp⟩
      have e : remL (upd H2 sm (.lst [])) [l, sm] = remL H2 [l, sm] := rem_upd (by simp)
      rw [e]
      refine hA.same ?_
      intro b u hb
      have hbl : b ∉ [l] := fun z => by rw [remL_in z] at hb; cases hb
      rw [remL_out hbl] at hb
      have : b ∉ [l, sm] := fun z => by
        rcases List.mem_cons.mp z with z | z
        · exact hbl (by simp [z])
        · rw [List.mem_singleton.mp z, hsm] at hb; cases hb
      rw [remL_out this]; exact hb
    · rintro j σ H3 hj ⟨o9', o10', o11', us, ds, rfl, s3, h3l, hA3, h3s, hD3, hdl, hdok⟩
      have bi : bits (0 + (i : Int)) ≤ 4 := bits_of_lt (by (clear hdl h3s h3l hj hcount k1 k0 hsm1 hsl hsm h2l hi bd bm q48 hl M1 M0 p1 p0 d1 d0 n1 n0; omega)) (by (clear hdl h3s h3l hj k1 hsm1 hsl hsm h2l bd bm q48 hl M1 M0 p1 p0 d1 d0; omega))
      have bj : bits (0 + (j : Int)) ≤ 4 := bits_of_lt (by (clear bi h3s h3l hj hcount k1 k0 hsm1 hsl hsm hlen h2l hi bd bm q48 hl M1 M0 p1 p0 d1 d0 n1 n0; omega)) (by (clear bi h3s h3l hsm1 hsl hsm hlen h2l hi bd bm q48 hl M1 M0 p1 p0 n1 n0; omega))
      have bid := CH.bits_mul bi bd
      have bs := CH.bits_add bid bj
      have b48 : bits (48 / (many * doors)) ≤ 6 := bits_of_lt (by (clear bs bid bj bi hdl h3s h3l hj hcount k1 k0 hsm1 hsl hsm hlen h2l hi bd bm hl M1 M0 p1 p0 d1 d0 n1 n0; omega)) (by (clear bs bid bj bi hdl h3s h3l hj hcount k1 k0 hsm1 hsl hsm hlen h2l hi bd bm hl M1 M0 p1 p0 d1 d0 n1 n0; omega))
      refine ⟨_, rfl, _, rfl, _, _, rfl, rfl, mulOk bi bd (by decide), _, rfl, _, _, rfl, rfl, _, rfl, _, rfl, _, _, rfl, rfl, mulOk bm bd (by decide), _, _, rfl, rfl, cd48, _, _, rfl, rfl, mulOk bs b48 (by decide), _, _, rfl, rfl, ?_⟩
      have hat0 : 0 ≤ 15 + ((0 + (i : Int)) * doors + (0 + (j : Int))) * (48 / (many * doors)) := by
        have h1 : 0 ≤ (0 + (i : Int)) * doors := Int.mul_nonneg (by (clear b48 bs bid bj bi hdl h3s h3l hj hcount k1 k0 hsm1 hsl hsm h2l hi bd bm q48 hl M1 M0 p1 p0 d1 d0 n1 n0; omega)) (by (clear b48 bs bid bj bi hdl h3s h3l hj hcount k1 k0 hsm1 hsl hsm hlen h2l hi bd bm q48 hl M1 M0 p1 p0 n1 n0; omega))
        have h2 : 0 ≤ ((0 + (i : Int)) * doors + (0 + (j : Int))) * (48 / (many * doors)) := Int.mul_nonneg (by (clear b48 bs bid bj bi h3s h3l hj hcount k1 k0 hsm1 hsl hsm hlen h2l hi bd bm q48 hl M1 M0 p1 p0 d1 d0 n1 n0; omega)) (by (clear h1 b48 bs bid bj bi hdl h3s h3l hj hcount k1 k0 hsm1 hsl hsm hlen h2l hi bd bm hl M1 M0 p1 p0 d1 d0 n1 n0; omega))
        (clear h1 b48 bs bid bj bi hdl h3s h3l hj hcount k1 k0 hsm1 hsl hsm hlen h2l hi bd bm q48 hl M1 M0 p1 p0 d1 d0 n1 n0; omega)
      refine ⟨_, rfl, _, rfl, _, _, rfl, rfl, mulOk bm bd (by decide), _, _, rfl, rfl, cd48, _, _, rfl, _, rfl, ?_, ?_, ?_⟩
      · split <;> (clear hat0 b48 bs bid bj bi hdl h3s h3l hj hcount k1 k0 hsm1 hsl hsm hlen h2l hi bd bm hl M1 M0 p1 p0 d1 d0 n1 n0; omega)
      · split <;> (clear hat0 b48 bs bid bj bi hdl h3s h3l hj hcount k1 k0 hsm1 hsl hsm hlen h2l hi bd bm hl M1 M0 p1 p0 d1 d0 n1 n0; omega)
      have hmin : (if 48 / (many * doors) < 3 then 48 / (many * doors) else 3) ≥ 2 ∧ (if 48 / (many * doors) < 3 then 48 / (many * doors) else 3) ≤ 3 := by split <;> (clear hat0 b48 bs bid bj bi hdl h3s h3l hj hcount k1 k0 hsm1 hsl hsm hlen h2l hi bd bm hl M1 M0 p1 p0 d1 d0 n1 n0; omega)
      generalize (if 48 / (many * doors) < 3 then 48 / (many * doors) else 3) = mn at hmin
      have hS3 := s3.seq hS
      refine comp_range (fun k ys H' => H' = H3 ∧ ∃ cs : List Int, ys = cs.map V.int ∧ cs.length = k) (small1000 (by (clear hat0 b48 bs bid bj bi hdl h3s h3l hj hcount k1 k0 hsm1 hsl hsm hlen h2l hi bd bm q48 hl M1 M0 p1 p0 d1 d0 n1 n0; omega))) ⟨rfl, [], rfl, rfl⟩ ?_ ?_ ?_
      · rintro k ys H' _ ⟨_, cs, rfl, h⟩
        rw [List.length_map, h]; exact Nat.le_refl _
      · rintro k ys H' hk ⟨rfl, cs, rfl, h⟩
        refine ⟨keep1, allT ⟨_, rfl, _, rfl, _, rfl, _, _, rfl, rfl, a, ns, _, rfl, hS3, by (clear h3s h3l hk hmin b48 bs bid bj bi hdl hj hcount k1 k0 hsm1 hsl hsm hlen h2l hi bd bm q48 hl M1 M0 p1 p0 d1 d0 n1 n0; omega), rfl, cs ++ [_], by rw [List.map_append]; rfl, len1 h⟩⟩
      rintro ys H' ⟨e', cs, rfl, hcl⟩ D hD
      subst e'
      have sD := same_new hD (.lst (cs.map V.int))
      obtain ⟨ci, cx, hcx⟩ : ∃ ci cx, cs = ci ++ [cx] := by
        rcases List.eq_nil_or_concat cs with e | ⟨r, x, e⟩
        · subst e; simp at hcl; (clear h3s h3l hD hat0 b48 bs bid bj bi hdl hj hcount k1 k0 hsm1 hsl hsm hlen h2l hi bd bm q48 hl M1 M0 p1 p0 d1 d0 n1 n0; omega)
        · exact ⟨r, x, by simpa using e⟩
      have hlast : atI (cs.map V.int) (-1) = some (.int cx) := by rw [hcx, List.map_append]; exact atI_last _ _
      have hsl4 := sD _ _ h3s
      refine ⟨_, rfl, .inl ⟨rfl, _, SqL.of hsl4⟩, _, rfl, _, rfl, D, _, _, _, rfl, rfl, sqL_new, hlast, cx, rfl, fun pc H5 qc s5 fc zc nc => ?_⟩
      refine ⟨_, rfl, _, rfl, _, rfl, D, cs, many, most, rfl, s5.seq sqL_new, by (clear nc hsl4 hlast hcx h3s h3l hD hat0 b48 bs bid bj bi hdl hj hcount k1 k0 hsm1 hsl hsm hlen h2l hi bd bm q48 hl M1 M0 p1 p0 d1 d0 n1 n0; omega), by (clear nc hsl4 hlast hcx h3s h3l hD hat0 b48 bs bid bj bi hdl hj hcount k1 k0 hsm1 hsl hsm hlen h2l hi bd bm q48 hl M1 M0 p1 p0 d1 d0 n1 n0; omega), by (clear nc hsl4 hlast hcx h3s h3l hD hcl hmin hat0 b48 bs bid bj bi hdl hj hcount k1 k0 hsm1 hsl hsm hlen h2l hi bd bm q48 hl M1 M0 p1 p0 d1 d0 n1; omega), by (clear nc hsl4 hlast hcx h3s h3l hD hcl hmin hat0 b48 bs bid bj bi hdl hj hcount k1 k0 hsm1 hsl hsm hlen h2l hi bd bm q48 hl M1 M0 p1 p0 d1 d0 n0; omega), M0, M1, fun pr H6 xr ws s6 fr6 hr6 hAr hgr => ?_⟩
      refine ⟨small (by show 2 ≤ 1000; decide), fun t ht => ?_⟩
      have st := same_new ht (.tup [.ref pc, .ref pr])
      have s36 := (sD.trans s5).trans s6
      have s3t := s36.trans st
      have h7s := s3t _ _ h3s
      have h7l := s3t _ _ h3l
      have husl := hD3.len
      refine ⟨sm, us, _, rfl, rfl, h7s, small1000 (by (clear h7l h7s ht hr6 fr6 nc hsl4 hlast hcx h3s h3l hD hcl hat0 b48 bs bid bj bi hsm1 hsl hsm hlen h2l hi bd bm q48 hl M1 M0 p1 p0 n1 n0; omega)), ?_⟩
      have hprl : pr ∉ [l, sm] := fun z => by
        rcases List.mem_cons.mp z with z | z
        · have := (sD.trans s5) _ _ h3l; rw [← z, fr6] at this; cases this
        · have := (sD.trans s5) _ _ h3s; rw [← List.mem_singleton.mp z, fr6] at this; cases this
      have lsts : ∀ b ∈ [l, sm], ∃ xs, (upd H6 t (.tup [.ref pc, .ref pr])) b = some (.lst xs) := fun b hb => by
        rcases List.mem_cons.mp hb with z | z
        · rw [z]; exact ⟨_, h7l⟩
        · rw [List.mem_singleton.mp z]; exact ⟨_, h7s⟩
      have door : At K (remL (upd H6 t (.tup [.ref pc, .ref pr])) [l, sm]) (doorD (qc, ws)) (.ref t) :=
        door_at (SqT.rem lsts sqT_new) (SqT.rem lsts (st.tup (s6.tup fc))) (SqL.outRem hprl (SqL.of (st _ _ hr6))) ((hAr.same st).wayRem lsts)
      refine ⟨_, _, _, us ++ [.ref t], ds ++ [(qc, ws)], rfl, same_upd (s3.trans s3t) hsm1, ?_, ?_, upd_same, ?_, len1 hdl, ?_⟩
      · rw [upd_ne (Ne.symm hsl)]; exact h7l
      · rw [rem_upd (by simp)]; exact hA3.same (same_rem s3t)
      · rw [rem_upd (by simp), List.map_append]; exact (hD3.same (same_rem s3t)).snoc door
      · intro d hd
        rcases List.mem_append.mp hd with h | h
        · exact hdok d h
        · rw [List.mem_singleton.mp h]; exact ⟨⟨nc, zc⟩, hgr⟩
    · rintro σ H3 ⟨o9', o10', o11', us, ds, rfl, s3, h3l, hA3, h3s, hD3, hdl, hdok⟩
      have hvl := hA3.len
      refine ⟨_, rfl, .inl ⟨rfl, _, SqL.of h3l⟩, _, rfl, l, vs, _, rfl, rfl, h3l, small1000 (by (clear hdl h3s h3l k1 hsm1 hsl hsm h2l bd bm q48 hl M1 M0 p1 p0 d1 d0; omega)), ?_⟩
      have sub : Same (remL H3 [l, sm]) (remL H3 [l]) := rem_less (by simp)
      refine ⟨_, _, _, _, _, vs ++ [.ref sm], hs ++ [ds], rfl, same_upd s3 hl, upd_same, ?_, len1 hlen, ?_⟩
      · rw [rem_upd (by simp), List.map_append]
        refine (hA3.same sub).snoc (doors_at (SqL.outRem (by simpa using hsl) (SqL.of h3s)) (hD3.same sub))
      · intro ds' hds'
        rcases List.mem_append.mp hds' with h | h
        · exact hok ds' h
        · rw [List.mem_singleton.mp h]; exact ⟨⟨by (clear hvl h3s h3l k1 hsm1 hsl hsm hlen h2l hi bd bm q48 hl M1 M0 p1 p0 d1 d0 n1 n0; omega), by (clear hvl h3s h3l hsm1 hsl hsm hlen h2l hi bd bm q48 hl M1 M0 p1 p0 n1 n0; omega)⟩, hdok⟩
  · rintro σ H2 ⟨o7, o8, o9, o10, o11, vs, hs, rfl, s2, h2l, hA, hlen, hok⟩
    refine ⟨_, rfl, q (.ref l) H2 hs s2 (house_at (SqL.of h2l) (hA.same rem_same)) ⟨by (clear h2l bd bm q48 hl M1 M0 p1 p0 d1 d0; omega), by (clear h2l bd bm q48 hl M1 M0 p1 p0 d1 d0; omega), fun ds hd => (hok ds hd).1, fun ds hd d hd' => ((hok ds hd).2 d hd').1, fun ds hd d hd' => ?_⟩⟩
    have := ((hok ds hd).2 d hd').2
    rwa [← hlen] at this
end
end Law
set_option Elab.async false
set_option linter.all false
set_option maxRecDepth 100000
set_option maxHeartbeats 4000000
local macro_rules | `(tactic| walk_at "rd") => `(tactic| repeat (first | refine ⟨_, rfl, ?_⟩ | refine ⟨_, _, rfl, rfl, ?_⟩ | refine ⟨rfl, ?_⟩ | refine ⟨_, _, _, _, rfl, rfl, by assumption, rfl, ?_⟩))
namespace Law
open PySem PySem.Spec PyProof.Rows L2 CH
section
variable {P : Program} {w : World} {K : PySem.W.Frag} {mg : Str → Option Value} {base : Heap}
/-! ### ways gathered -/
noncomputable def pf (ps : List Way) (f : Int → Rat) : Rat := rsum (ps.map fun p => p.2 * f p.1)
noncomputable def dotF : Int → List Rat → (Int → Rat) → Rat
  | _, [], _ => 0
  | k, q :: qs, f => q * f k + dotF (k + 1) qs f
noncomputable def dueL : Int → List Rat → List Way
  | _, [] => []
  | k, q :: qs => if q = 0 then dueL (k + 1) qs else (k, q) :: dueL (k + 1) qs
noncomputable def ind (g : Int) : Int → Rat := fun i => if i = g then 1 else 0
theorem pf_snoc (ps : List Way) (p : Way) (f : Int → Rat) : pf (ps ++ [p]) f = pf ps f + p.2 * f p.1 := by
  unfold pf
  rw [List.map_append, rsum_append]
  show _ + rsum [_] = _
  rw [rsum_one]
theorem pf_cons (ps : List Way) (p : Way) (f : Int → Rat) : pf (p :: ps) f = p.2 * f p.1 + pf ps f := by
  unfold pf
  rw [List.map_cons, rsum_cons]
theorem pf_set : ∀ {ms : List Way} {j : Nat} {g : Int} {q c : Rat} {f : Int → Rat}, ms[j]? = some (g, q) → pf (ms.set j (g, q + c)) f = pf ms f + c * f g
  | [], j, g, q, c, f, h => by simp at h
  | m :: ms, 0, g, q, c, f, h => by
    simp at h
    subst h
    rw [List.set_cons_zero, pf_cons, pf_cons]
    show (q + c) * f g + _ = q * f g + _ + _
    rw [Rat.add_mul, Rat.add_assoc, Rat.add_comm (c * f g), ← Rat.add_assoc]
  | m :: ms, j + 1, g, q, c, f, h => by
    have ih := pf_set (ms := ms) (j := j) (g := g) (q := q) (c := c) (f := f) (by simpa using h)
    rw [List.set_cons_succ, pf_cons, pf_cons, ih, Rat.add_assoc]
theorem pf_out : ∀ {ms : List Way} {g : Int}, (∀ m ∈ ms, m.1 ≠ g) → pf ms (ind g) = 0
  | [], _, _ => rfl
  | m :: ms, g, h => by
    rw [pf_cons, pf_out fun x hx => h x (List.mem_cons_of_mem _ hx)]
    unfold ind
    rw [if_neg (h m (by simp)), Rat.mul_zero, Rat.add_zero]
theorem pf_ind : ∀ {ms : List Way} {g : Int} {q : Rat}, (ms.map (·.1)).Nodup → (g, q) ∈ ms → pf ms (ind g) = q
  | [], g, q, _, h => by simp at h
  | m :: ms, g, q, hn, h => by
    rw [List.map_cons, List.nodup_cons] at hn
    rcases List.mem_cons.mp h with e | e
    · subst e
      rw [pf_cons, pf_out fun x hx z => hn.1 (List.mem_map.mpr ⟨x, hx, z⟩)]
      show q * (if g = g then 1 else 0) + 0 = q
      rw [if_pos rfl, Rat.mul_one, Rat.add_zero]
    · have hne : m.1 ≠ g := fun z => hn.1 (by rw [z]; exact List.mem_map.mpr ⟨_, e, rfl⟩)
      rw [pf_cons, pf_ind hn.2 e]
      unfold ind
      rw [if_neg hne, Rat.mul_zero, Rat.zero_add]
theorem dotF_none : ∀ {gs : List Rat} {k g : Int}, g < k → dotF k gs (ind g) = 0
  | [], _, _, _ => rfl
  | q :: gs, k, g, h => by
    show q * (if k = g then 1 else 0) + dotF (k + 1) gs _ = 0
    rw [if_neg (by omega), dotF_none (gs := gs) (by omega), Rat.mul_zero, Rat.add_zero]
theorem dueL_lt : ∀ {gs : List Rat} {k : Int}, ∀ w ∈ dueL k gs, k ≤ w.1
  | [], _, w, h => by simp [dueL] at h
  | q :: gs, k, w, h => by
    unfold dueL at h
    split at h
    · have := dueL_lt w h; omega
    · rcases List.mem_cons.mp h with e | e
      · rw [e]; exact Int.le_refl _
      · have := dueL_lt w e; omega
theorem dueL_rise : ∀ {gs : List Rat} {k : Int}, (dueL k gs).Pairwise (fun a b => a.1 < b.1)
  | [], _ => by simp [dueL]
  | q :: gs, k => by
    unfold dueL
    split
    · exact dueL_rise
    · rw [List.pairwise_cons]
      exact ⟨fun w hw => by have := dueL_lt w hw; show k < w.1; omega, dueL_rise⟩
theorem dueL_mem : ∀ {gs : List Rat} {k : Int} {w : Way}, w ∈ dueL k gs ↔ w.2 ≠ 0 ∧ dotF k gs (ind w.1) = w.2
  | [], k, w => by
    simp only [dueL, dotF, List.not_mem_nil, false_iff]
    rintro ⟨h1, h2⟩; exact h1 h2.symm
  | q :: gs, k, w => by
    have ih := dueL_mem (gs := gs) (k := k + 1) (w := w)
    have ed : dotF k (q :: gs) (ind w.1) = q * (if k = w.1 then 1 else 0) + dotF (k + 1) gs (ind w.1) := rfl
    by_cases hk : k = w.1
    · have e0 : dotF (k + 1) gs (ind w.1) = 0 := dotF_none (by (clear ed ih; omega))
      rw [ed, if_pos hk, e0, Rat.mul_one, Rat.add_zero]
      have hno : w ∉ dueL (k + 1) gs := fun h => by have := dueL_lt w h; (clear e0 ed ih; omega)
      unfold dueL
      by_cases hq : q = 0
      · rw [if_pos hq]
        constructor
        · intro h; exact absurd h hno
        · rintro ⟨h1, h2⟩; exact absurd (h2.symm.trans hq) h1
      · rw [if_neg hq, List.mem_cons]
        constructor
        · rintro (e | e)
          · rw [e]; exact ⟨hq, rfl⟩
          · exact absurd e hno
        · rintro ⟨_, h2⟩
          exact .inl (Prod.ext hk.symm h2.symm)
    · rw [ed, if_neg hk, Rat.mul_zero, Rat.zero_add, ← ih]
      show (w ∈ (if q = 0 then dueL (k + 1) gs else (k, q) :: dueL (k + 1) gs)) ↔ _
      split
      · exact Iff.rfl
      · rw [List.mem_cons]
        constructor
        · rintro (e | e)
          · exact absurd (by rw [e]) hk
          · exact e
        · exact .inr
theorem dueL_sum : ∀ {gs : List Rat} {k : Int}, rsum ((dueL k gs).map (·.2)) = rsum gs
  | [], _ => rfl
  | q :: gs, k => by
    unfold dueL
    split
    · rename_i h; rw [dueL_sum, rsum_cons, h, Rat.zero_add]
    · rw [List.map_cons, rsum_cons, rsum_cons, dueL_sum]
theorem dueL_len : ∀ {gs : List Rat} {k : Int}, (dueL k gs).length ≤ gs.length
  | [], _ => by simp [dueL]
  | q :: gs, k => by
    have := dueL_len (gs := gs) (k := k + 1)
    unfold dueL
    split
    · rw [List.length_cons]; omega
    · rw [List.length_cons, List.length_cons]; omega
theorem dueL_sm {n : Nat} : ∀ {gs : List Rat} {k : Int}, (∀ q ∈ gs, Sm n q) → ∀ w ∈ dueL k gs, Sm n w.2
  | [], _, _, w, h => by simp [dueL] at h
  | q :: gs, k, hz, w, h => by
    unfold dueL at h
    split at h
    · exact dueL_sm (fun x hx => hz x (List.mem_cons_of_mem _ hx)) w h
    · rcases List.mem_cons.mp h with e | e
      · rw [e]; exact hz q (by simp)
      · exact dueL_sm (fun x hx => hz x (List.mem_cons_of_mem _ hx)) w e
/-- two rising lists of ways with the same members -/
theorem rise_eq : ∀ {a b : List Way}, a.Pairwise (fun x y => x.1 < y.1) → b.Pairwise (fun x y => x.1 < y.1) → (∀ w, w ∈ a ↔ w ∈ b) → a = b
  | [], [], _, _, _ => rfl
  | [], y :: b, _, _, h => by have := (h y).mpr (by simp); simp at this
  | x :: a, [], _, _, h => by have := (h x).mp (by simp); simp at this
  | x :: a, y :: b, ha, hb, h => by
    rw [List.pairwise_cons] at ha hb
    have e : x = y := by
      rcases List.mem_cons.mp ((h x).mp (by simp)) with z | z
      · exact z
      · rcases List.mem_cons.mp ((h y).mpr (by simp)) with z' | z'
        · exact z'.symm
        · have h1 := hb.1 x z
          have h2 := ha.1 y z'
          (clear hb ha; omega)
    subst e
    have ih := rise_eq ha.2 hb.2 fun w => by
      constructor
      · intro hw
        rcases List.mem_cons.mp ((h w).mp (List.mem_cons_of_mem _ hw)) with z | z
        · have := ha.1 w hw; rw [z] at this; (clear z hb ha; omega)
        · exact z
      · intro hw
        rcases List.mem_cons.mp ((h w).mpr (List.mem_cons_of_mem _ hw)) with z | z
        · have := hb.1 w hw; rw [z] at this; (clear z hb ha; omega)
        · exact z
    rw [ih]
theorem SqT_updD {H : Hp} {l p : Addr} {kvs kvs' : List (Key × V)} {ys : List V} (hl : H l = some (.dK kvs)) (h : SqT K H p ys) : SqT K (upd H l (.dK kvs')) p ys := by
  rcases h with (h | ⟨o, h⟩) | h
  · exact .inl (.inl (by rw [upd_ne (ne_of h hl (by intro z; cases z))]; exact h))
  · exact .inl (.inr ⟨o, by rw [upd_ne (ne_of h hl (by intro z; cases z))]; exact h⟩)
  · exact .inr h
/-- the dict of the ways gathered -/
structure Gath (K : PySem.W.Frag) (H : Hp) (kvs : List (Key × V)) (ms : List Way) : Prop where
  len : kvs.length = ms.length
  here : ∀ (j : Nat) (kv : Key × V) (m : Way), kvs[j]? = some kv → ms[j]? = some m → kv.1 = Sum.inl m.1 ∧ ∃ p, kv.2 = .ref p ∧ FracT K H p m.2
  nd : (ms.map (·.1)).Nodup
theorem Gath.keys {H : Hp} {kvs : List (Key × V)} {ms : List Way} (h : Gath K H kvs ms) : kvs.map (·.1) = (ms.map (·.1)).map Sum.inl := by
  apply List.ext_getElem?
  intro j
  rw [List.getElem?_map, List.getElem?_map, List.getElem?_map]
  by_cases hj : j < kvs.length
  · have e1 := List.getElem?_eq_getElem hj
    have e2 := List.getElem?_eq_getElem (show j < ms.length by rw [← h.len]; exact hj)
    rw [e1, e2]
    simp [(h.here j _ _ e1 e2).1]
  · rw [List.getElem?_eq_none (by omega), List.getElem?_eq_none (by rw [← h.len]; omega)]; rfl
theorem Gath.same {H H' : Hp} {kvs : List (Key × V)} {ms : List Way} (h : Gath K H kvs ms) (s : Same H H') : Gath K H' kvs ms := ⟨h.len, fun j kv m e1 e2 => by
  obtain ⟨g1, p, g2, g3⟩ := h.here j kv m e1 e2
  exact ⟨g1, p, g2, s.tup g3⟩, h.nd⟩
theorem Gath.upd {H : Hp} {l : Addr} {kvs0 kvs1 kvs : List (Key × V)} {ms : List Way} (h : Gath K H kvs ms) (hl : H l = some (.dK kvs0)) : Gath K (upd H l (.dK kvs1)) kvs ms := ⟨h.len, fun j kv m e1 e2 => by
  obtain ⟨g1, p, g2, g3⟩ := h.here j kv m e1 e2
  exact ⟨g1, p, g2, SqT_updD hl g3⟩, h.nd⟩
theorem find_at : ∀ {kvs : List (Key × V)} {j : Nat} {k : Key} {v : V}, (kvs.map (·.1)).Nodup → kvs[j]? = some (k, v) → valV kvs k = some v ∧ ∀ v', putK kvs k v' = kvs.set j (k, v')
  | [], j, k, v, _, h => by simp at h
  | p :: kvs, 0, k, v, hn, h => by
    simp at h
    subst h
    rw [List.map_cons, List.nodup_cons] at hn
    refine ⟨by simp [valV, List.find?_cons], fun v' => ?_⟩
    unfold putK
    rw [if_pos (by simp)]
    rw [List.map_cons, List.set_cons_zero]
    have : kvs.map (fun kv => if kv.1 = k then (kv.1, v') else kv) = kvs := by
      conv => rhs; rw [← List.map_id kvs]
      apply List.map_congr_left
      intro x hx
      rw [if_neg (fun e => hn.1 (by rw [← e]; exact List.mem_map.mpr ⟨x, hx, rfl⟩))]; rfl
    rw [this]
    simp
  | p :: kvs, j + 1, k, v, hn, h => by
    rw [List.map_cons, List.nodup_cons] at hn
    have h' : kvs[j]? = some (k, v) := by simpa using h
    obtain ⟨i1, i2⟩ := find_at hn.2 h'
    have hne : p.1 ≠ k := fun e => hn.1 (by rw [e]; exact List.mem_map.mpr ⟨_, List.mem_of_getElem? h', rfl⟩)
    refine ⟨by unfold valV at i1 ⊢; rw [List.find?_cons, decide_eq_false hne]; exact i1, fun v' => ?_⟩
    have hany : (kvs.any fun kv => decide (kv.1 = k)) = true := by
      rw [List.any_eq_true]
      exact ⟨_, List.mem_of_getElem? h', by simp⟩
    have := i2 v'
    unfold putK at this ⊢
    rw [if_pos hany] at this
    rw [if_pos (by rw [List.any_cons, hany]; simp), List.map_cons, if_neg hne, this, List.set_cons_succ]
theorem find_out {kvs : List (Key × V)} {k : Key} (h : ∀ kv ∈ kvs, kv.1 ≠ k) : valV kvs k = none ∧ ∀ v', putK kvs k v' = kvs ++ [(k, v')] := by
  have h1 : (kvs.any fun kv => decide (kv.1 = k)) = false := by
    rw [List.any_eq_false]
    intro x hx; simp [h x hx]
  refine ⟨?_, fun v' => ?_⟩
  · unfold valV
    rw [List.find?_eq_none.mpr fun x hx => by simp [h x hx]]; rfl
  · unfold putK
    rw [if_neg (by rw [h1]; simp)]
theorem nodup_inl {ks : List Int} (h : ks.Nodup) : (ks.map (Sum.inl : Int → Key)).Nodup := List.Pairwise.map _ (fun a b hab e => hab (Sum.inl.inj e)) h
/-- what stands at a room, and what stands behind a put there -/
theorem Gath.at {H : Hp} {kvs : List (Key × V)} {ms : List Way} (h : Gath K H kvs ms) (g : Int) : (∃ j q p, ms[j]? = some (g, q) ∧ valV kvs (.inl g) = some (.ref p) ∧ FracT K H p q ∧ ∀ v', putK kvs (.inl g) v' = kvs.set j (.inl g, v')) ∨ ((∀ m ∈ ms, m.1 ≠ g) ∧ valV kvs (.inl g) = none ∧ ∀ v', putK kvs (.inl g) v' = kvs ++ [(.inl g, v')]) := by
  by_cases hg : ∃ m ∈ ms, m.1 = g
  · obtain ⟨m, hm, e⟩ := hg
    obtain ⟨j, hj⟩ := List.getElem?_of_mem hm
    have hjl : j < kvs.length := by rw [h.len]; exact (List.getElem?_eq_some_iff.mp hj).1
    have e1 := List.getElem?_eq_getElem hjl
    obtain ⟨g1, p, g2, g3⟩ := h.here j _ _ e1 hj
    have e2 : kvs[j]? = some (.inl g, .ref p) := by rw [e1, ← g2, ← e, ← g1]
    have hnd : (kvs.map (·.1)).Nodup := by rw [h.keys]; exact nodup_inl h.nd
    obtain ⟨f1, f2⟩ := find_at hnd e2
    exact .inl ⟨j, m.2, p, by rw [hj, ← e], f1, g3, f2⟩
  · have hno : ∀ m ∈ ms, m.1 ≠ g := fun m hm e => hg ⟨m, hm, e⟩
    refine .inr ⟨hno, find_out fun kv hkv e => ?_⟩
    obtain ⟨j, hj⟩ := List.getElem?_of_mem hkv
    have hjl : j < ms.length := by rw [← h.len]; exact (List.getElem?_eq_some_iff.mp hj).1
    have e1 := List.getElem?_eq_getElem hjl
    have := (h.here j _ _ hj e1).1
    rw [e] at this
    exact hno _ (List.getElem_mem hjl) (Sum.inl.inj this).symm
end
end Law
set_option Elab.async false
set_option linter.all false
set_option maxRecDepth 100000
set_option maxHeartbeats 4000000
local macro_rules | `(tactic| walk_at "rd") => `(tactic| repeat (first | refine ⟨_, rfl, ?_⟩ | refine ⟨_, _, rfl, rfl, ?_⟩ | refine ⟨rfl, ?_⟩ | refine ⟨_, _, _, _, rfl, rfl, by assumption, rfl, ?_⟩))
namespace Law
open PySem PySem.Spec PyProof.Rows L2 CH
section
variable {P : Program} {w : World} {K : PySem.W.Frag} {mg : Str → Option Value} {base : Heap}
theorem set_same {α : Type} : ∀ {l : List α} {j : Nat} {x : α}, l[j]? = some x → l.set j x = l
  | [], j, x, h => by simp at h
  | y :: l, 0, x, h => by simp at h; rw [h]; rfl
  | y :: l, j + 1, x, h => by rw [List.set_cons_succ, set_same (by simpa using h)]
noncomputable abbrev srow_of : Stmt := top 22
theorem scrow_of : FnScope ["pairs", "many", "chances", "room", "chance", "row"] ["pairs", "many"] (defScope srow_of) := ⟨rfl, rfl, rfl, by decide +kernel, rfl, by decide +kernel, by decide +kernel⟩
/-- the row of pairs that come to 1 -/
noncomputable def spRowOf (K : PySem.W.Frag) : Sp := fun vs H Q _ => ∃ (a : Addr) (n : Nat) (xs : List V) (ps : List Way) (gs : List Rat), vs = [.ref a, .int (n : Int)] ∧ SqL K H a xs ∧ Ats K H (ps.map wD) xs ∧ (∀ p ∈ ps, 0 ≤ p.1 ∧ p.1 < (n : Int) ∧ ¬ p.2 < 0 ∧ Sm 80 p.2) ∧ ps.length ≤ 60 ∧ n ≤ 10 ∧
  gs.length = n ∧ (∀ f, pf ps f = dotF 0 gs f) ∧ rsum gs = 1 ∧ (∀ q ∈ gs, Sm 4000 q) ∧
  ∀ (D : Addr) (H' : Hp) (ys : List V), Same H H' → H D = none → H' D = some (.lst ys) → Ats K H' ((dueL 0 gs).map wD) ys → Q (.ref D) H'
theorem ok_rowof (B : Blt mg) (CNOUGHT : GlobT K mg "NOUGHT" 0 1) (Dless : Dfn P w K mg base 1 "less" ["one", "other"] (spLessR K)) (Dplus : Dfn P w K mg base 3 "plus" ["one", "other"] (spPlusG K)) (Dcomes_to_one : Dfn P w K mg base 5 "comes_to_one" ["row"] (spOne K)) (T : TxtD K mg "row_of" srow_of ["pairs", "many"]) : Dfn P w K mg base 6 "row_of" ["pairs", "many"] (spRowOf K) := by
  refine T.ok scrow_of (fun vs H Q E h => ?_) (fun f cdv A outer s H vs Q E hr h => ?_)
  · obtain ⟨a, n, xs, ps, gs, rfl, _⟩ := h
    rfl
  obtain ⟨a, n, xs, ps, gs, rfl, hS, hA, hp, hl60, hn10, hgl, hpf, hone, hzg, q⟩ := h
  have hu1 := Nat.lt_of_le_of_lt (Nat.add_le_add_left (by decide : 1 ≤ 60) _) (hu6 hr)
  refine ⟨_, (pss_cons (ps_set (i := 2) scrow_of.nd rfl (Or.inr rfl) pe_dnewK)
      (pss_cons (ps_for PassesOwn.never rfl (piL K (pv 0)) (pgT K (n := 2) rfl (pgs_cons (pg_name (i := 3) scrow_of.nd rfl (Or.inl rfl)) (pgs_cons (pg_name (i := 4) scrow_of.nd rfl (Or.inl rfl)) pgs_nil)))
        (pss_cons (ps_if (PW.pt (pw_or (pt_cmpR op_lt (pv 3) pe_int (nomark _)) (pw_or1 (pt_cmpR op_ge (pv 3) (pv 1) (nomark _)))))
          (pss_one ps_never)
          pss_nil)
        (pss_cons (ps_if (pt_val (pe_callD Dless hr (pa_cons (pv 4) (pa_cons (pe_globT CNOUGHT) pa_nil))))
          (pss_one ps_never)
          pss_nil)
        (pss_one (ps_dput hu1 (pv 2) (pv 3) (pe_callD Dplus hr (pa_cons (pe_dget2 hu1 (pv 2) (pv 3) (pe_globT CNOUGHT) ⟨rfl, rfl, rfl, rfl⟩) (pa_cons (pv 4) pa_nil))) rfl)))))
      (pss_cons (ps_setC (i := 5) ["room"] [2] scrow_of.nd rfl rfl rfl (piL K (pe_callB (call_sortedD rfl) (by rfl) B.sorted boot_sorted (pa_cons (pv 2) pa_nil))) (fun Z nd => (pg_name (i := 0) nd rfl (Or.inl rfl))) (fun Z => (pts_one (pt_cmpR (neK K (hu6 hr)) (pe_dget hu1 (pv 1) (pv 0) (fun _ _ => rfl)) (pe_globT CNOUGHT) (nomark _)))) (fun Z => (pe_tup (pa_cons (pv 0) (pa_cons (pe_dget hu1 (pv 1) (pv 0) (fun _ _ => rfl)) pa_nil)))))
      (pss_cons (ps_if (pt_not (pt_val (pe_callD Dcomes_to_one hr (pa_cons (pv 5) pa_nil))))
        (pss_one ps_never)
        pss_nil)
      (pss_one (ps_ret (pv 5))))))), ?_⟩
  have hlen := hA.len
  intro C hC
  have sC := same_new hC (.dK [])
  refine ⟨_, rfl, a, rfl, ⟨_, sC.seq hS⟩, for_list (xs := xs) (fun i σ H' => i ≤ ps.length ∧ ∃ (o3 o4 : Option V) (kvs : List (Key × V)) (ms : List Way), σ = [some (.ref a), some (.int (n : Int)), some (.ref C), o3, o4, none] ∧ Same H H' ∧ H' C = some (.dK kvs) ∧ Gath K H' kvs ms ∧ (∀ f, pf ms f = pf (ps.take i) f) ∧ (∀ m ∈ ms, Sm (81 * i + 1) m.2) ∧ ms.length ≤ i) ?_ ?_ ?_ ?_⟩
  · exact ⟨Nat.zero_le _, _, _, [], [], rfl, sC, upd_same, ⟨rfl, fun j kv m e => by simp at e, by simp⟩, fun f => rfl, by simp, Nat.le_refl _⟩
  · rintro i σ H' _ ⟨_, o3, o4, kvs, ms, rfl, s1, _⟩
    exact s1.seq hS
  · rintro i x σ H1 hx ⟨hi, o3, o4, kvs, ms, rfl, s1, hC1, G, hms, hz, hml⟩
    obtain ⟨w', p, c, hw', rfl, ht, fc⟩ := (hA.same s1).way hx
    have hil : i < ps.length := (List.getElem?_eq_some_iff.mp hw').1
    obtain ⟨w0, w1, w2, w3⟩ := hp w' (List.mem_of_getElem? hw')
    refine ⟨p, _, rfl, ht, rfl, _, _, rfl, _, _, rfl, rfl, ?_⟩
    refine ⟨_, rfl, _, _, rfl, rfl, _, rfl, ?_⟩
    rw [decide_eq_false (show ¬ w'.1 < 0 by (clear w2 w1 hil hx hw' hml hC1 hi hC hlen hu1 hone hgl hn10 hl60; omega))]
    refine iteF ?_
    refine ⟨_, rfl, _, rfl, _, _, rfl, rfl, _, rfl, ?_⟩
    rw [decide_eq_false (show ¬ (n : Int) ≤ w'.1 by (clear w2 w0 hil hx hw' hml hC1 hi hC hlen hu1 hone hn10 hl60; omega))]
    refine iteF ?_
    refine ⟨_, rfl, fun g hg => ⟨c, g, w'.2, 0, 80, 1, rfl, fc, hg, w3, Sm0, by decide, _, rfl, ?_⟩⟩
    rw [decide_eq_false w2]
    refine iteF ?_
    have hkl := G.len
    have small60 : kvs.length < sizeLine := small1000 (by (clear w2 w1 w0 hx hw' hC1 hi hC hu1 hone hgl hn10; omega))
    rcases G.at w'.1 with ⟨j, qj, pj, hj, hval, fj, hput⟩ | ⟨hno, hval, hput⟩
    · have zj := hz (w'.1, qj) (List.mem_of_getElem? hj)
      refine ⟨_, rfl, C, rfl, .inl ⟨kvs, .inl hC1⟩, _, rfl, fun g2 hg2 => ⟨_, DGet.k (k := .inl w'.1) hC1, ?_⟩⟩
      rw [hval]
      refine ⟨_, rfl, pj, c, qj, w'.2, _, 80, rfl, fj, fc, zj, w3, by decide, by (clear hval hj small60 hkl w2 w1 w0 hx hw' hml hC1 hi hC hu1 hone hgl hn10; omega), fun p3 H3 s3 f3 => ?_⟩
      have hC3 := s3 _ _ hC1
      refine ⟨_, rfl, _, rfl, C, _, rfl, DPut.k (k := .inl w'.1) hC3 small60, ?_⟩
      rw [hput]
      refine ⟨hil, _, _, _, ms.set j (w'.1, qj + w'.2), rfl, same_upd (s1.trans s3) hC, upd_same, ⟨by rw [List.length_set, List.length_set]; exact hkl, fun k kv m e1 e2 => ?_, ?_⟩, fun f => ?_, fun m hm => ?_, by rw [List.length_set]; (clear hC3 hval hj small60 w2 w1 w0 hil hx hw' hC1 hi hC hlen hu1 hone hgl hn10 hl60; omega)⟩
      · by_cases hk : k = j
        · subst hk
          rw [List.getElem?_set_self (by have := (List.getElem?_eq_some_iff.mp hj).1; (clear e2 e1 hj hC3 hval small60 w2 w1 w0 hil hx hw' hml hC1 hi hC hlen hu1 hone hgl hn10 hl60; omega))] at e1
          rw [List.getElem?_set_self (List.getElem?_eq_some_iff.mp hj).1] at e2
          cases e1; cases e2
          exact ⟨rfl, p3, rfl, SqT_updD hC3 f3⟩
        · rw [List.getElem?_set_ne (Ne.symm hk)] at e1 e2
          exact ((G.same s3).upd hC3).here k kv m e1 e2
      · have e : (ms.set j (w'.1, qj + w'.2)).map (·.1) = ms.map (·.1) := by
          rw [List.map_set]
          exact set_same (by rw [List.getElem?_map, hj]; rfl)
        rw [e]; exact G.nd
      · rw [pf_set hj, hms f, take_snoc hw', pf_snoc]
      · rcases List.mem_or_eq_of_mem_set hm with z | z
        · exact (hz m z).mono (by (clear hC3 hval hj small60 hkl w2 w1 w0 hil hx hw' hml hC1 hi hC hlen hu1 hone hgl hn10 hl60; omega))
        · rw [z]; exact (zj.add w3).mono (by (clear z hC3 hval hj small60 hkl w2 w1 w0 hil hx hw' hml hC1 hi hC hlen hu1 hone hgl hn10 hl60; omega))
    · refine ⟨_, rfl, C, rfl, .inl ⟨kvs, .inl hC1⟩, _, rfl, fun g2 hg2 => ⟨_, DGet.k (k := .inl w'.1) hC1, ?_⟩⟩
      rw [hval]
      refine ⟨_, rfl, g2, c, 0, w'.2, 1, 80, rfl, hg2, fc, Sm0, w3, by decide, by decide, fun p3 H3 s3 f3 => ?_⟩
      rw [Rat.zero_add] at f3
      have hC3 := s3 _ _ hC1
      refine ⟨_, rfl, _, rfl, C, _, rfl, DPut.k (k := .inl w'.1) hC3 small60, ?_⟩
      rw [hput]
      refine ⟨hil, _, _, _, ms ++ [(w'.1, w'.2)], rfl, same_upd (s1.trans s3) hC, upd_same, ⟨by rw [List.length_append, List.length_append, hkl]; rfl, fun k kv m e1 e2 => ?_, ?_⟩, fun f => ?_, fun m hm => ?_, by rw [List.length_append]; show _ + 1 ≤ _; (clear hC3 hval small60 w2 w1 w0 hil hx hw' hC1 hi hC hlen hu1 hone hgl hn10 hl60; omega)⟩
      · by_cases hk : k < kvs.length
        · rw [List.getElem?_append_left hk] at e1
          rw [List.getElem?_append_left (by (clear e2 e1 hC3 hval small60 w2 w1 w0 hil hx hw' hml hC1 hi hC hlen hu1 hone hgl hn10 hl60; omega))] at e2
          exact ((G.same s3).upd hC3).here k kv m e1 e2
        · rw [List.getElem?_append_right (by (clear e2 e1 hC3 hval small60 hkl w2 w1 w0 hil hx hw' hml hC1 hi hC hlen hu1 hone hgl hn10 hl60; omega))] at e1
          rw [List.getElem?_append_right (by (clear e2 e1 hC3 hval small60 w2 w1 w0 hil hx hw' hml hC1 hi hC hlen hu1 hone hgl hn10 hl60; omega)), ← hkl] at e2
          cases hk' : k - kvs.length with
          | zero =>
            rw [hk'] at e1 e2
            simp at e1 e2
            subst e1 e2
            exact ⟨rfl, p3, rfl, SqT_updD hC3 f3⟩
          | succ k'' => rw [hk'] at e1; simp at e1
      · rw [List.map_append, List.nodup_append]
        refine ⟨G.nd, by simp, fun x hx y hy e => ?_⟩
        obtain ⟨m, hm, rfl⟩ := List.mem_map.mp hx
        have : y = w'.1 := by simpa using hy
        exact hno m hm (by rw [e, this])
      · rw [pf_snoc, hms f, take_snoc hw', pf_snoc]
      · rcases List.mem_append.mp hm with z | z
        · exact (hz m z).mono (by (clear hC3 hval small60 hkl w2 w1 w0 hil hx hw' hml hC1 hi hC hlen hu1 hone hgl hn10 hl60; omega))
        · rw [List.mem_singleton.mp z]; exact w3.mono (by (clear hC3 hval small60 hkl w2 w1 w0 hil hx hw' hml hC1 hi hC hlen hu1 hone hgl hn10 hl60; omega))
  · rintro σ H1 ⟨_, o3, o4, kvs, ms, rfl, s1, hC1, G, hms, hz, hml⟩
    rw [hlen, List.take_length] at hms
    rw [hlen] at hz hml
    have hkl := G.len
    -- what stands at a room
    have val : ∀ m ∈ ms, dotF 0 gs (ind m.1) = m.2 := fun m hm => by rw [← hpf, ← hms]; exact pf_ind G.nd hm
    have out : ∀ g, (∀ m ∈ ms, m.1 ≠ g) → dotF 0 gs (ind g) = 0 := fun g hg => by rw [← hpf, ← hms]; exact pf_out hg
    refine ⟨_, rfl, C, kvs, ms.map (·.1), rfl, hC1, G.keys, by rw [List.length_map]; (clear hC1 hC hu1 hone hgl hn10; omega), fun l ks hl hperm hsort => ?_⟩
    have sl := same_new hl (.lst (ks.map V.int))
    have hC2 := sl _ _ hC1
    have G2 := G.same sl
    have hkln : ks.length = ms.length := by rw [hperm.length_eq, List.length_map]
    have knd : ks.Nodup := hperm.symm.nodup G.nd
    have krise : ks.Pairwise (· < ·) := by
      have := List.Pairwise.and hsort knd
      exact this.imp fun h => by (clear hkln hC2 hl hkl hml hC1 hC hlen hu1 hone hgl hn10 hl60; omega)
    have hK : SqL K (upd H1 l (.lst (ks.map V.int))) l (ks.map V.int) := sqL_new
    have s12 := s1.trans sl
    generalize upd H1 l (.lst (ks.map V.int)) = H2 at hC2 G2 hK s12 sl
    refine ⟨l, rfl, ⟨_, hK⟩, comp_list (xs := ks.map V.int) (fun i ys H' => Same H2 H' ∧ ys.length ≤ i ∧ ∃ ws : List Way, Ats K H' (ws.map wD) ys ∧ ws.Pairwise (fun a b => a.1 < b.1) ∧ ∀ w : Way, w ∈ ws ↔ w.1 ∈ ks.take i ∧ w.2 ≠ 0 ∧ dotF 0 gs (ind w.1) = w.2) (by rw [List.length_map]; exact small1000 (by (clear hC2 hl hC1 hC hu1 hone hgl hn10; omega))) ⟨Same.refl _, Nat.le_refl _, [], by simp [Ats], by simp, by simp⟩ ?_ ?_ ?_⟩
    · rintro i ys H' hi ⟨s3, hyl, _⟩
      exact ⟨s3.seq hK, hyl⟩
    · rintro i x ys H3 hx ⟨s3, hyl, ws, hws, hrise, hmem⟩
      rw [List.getElem?_map] at hx
      cases hk : ks[i]? with
      | none => rw [hk] at hx; cases hx
      | some g =>
        rw [hk] at hx
        have hx' : x = .int g := by simpa using hx.symm
        subst hx'
        have gm : g ∈ ms.map (·.1) := hperm.mem_iff.mp (List.mem_of_getElem? hk)
        obtain ⟨m, hm, hmg⟩ := List.mem_map.mp gm
        have htk := take_snoc hk
        have big : ∀ w ∈ ws, w.1 < g := fun w hw => by
          have h1 := ((hmem w).mp hw).1
          obtain ⟨j, hj⟩ := List.getElem?_of_mem h1
          rw [List.getElem?_take] at hj
          split at hj
          · rename_i hji
            obtain ⟨l1, e1⟩ := List.getElem?_eq_some_iff.mp hj
            obtain ⟨l2, e2⟩ := List.getElem?_eq_some_iff.mp hk
            have := List.pairwise_iff_getElem.mp krise j i l1 l2 hji
            rw [e1, e2] at this
            exact this
          · cases hj
        have G3 := G2.same s3
        have hC3 := s3 _ _ hC2
        rcases G3.at g with ⟨j, qj, pj, hj, hval, fj, _⟩ | ⟨hno, _, _⟩
        · have vq : dotF 0 gs (ind g) = qj := val (g, qj) (List.mem_of_getElem? hj)
          refine ⟨keep1, _, rfl, _, rfl, C, _, rfl, hval ▸ DGet.k (k := .inl g) hC3, fun g4 hg4 => ⟨_, _, fj.at, FracT.at (q := 0) hg4, rfl, (show 1 ≤ 50 by decide), ⟨_, rfl⟩, _, rfl, ?_⟩⟩
          rw [eqD_fr]
          refine ite2 (fun cc => ?_) (fun cc => ?_)
          · have cc' : qj ≠ 0 := by simpa using cc
            refine ⟨_, rfl, _, rfl, _, rfl, C, _, rfl, hval ▸ DGet.k (k := .inl g) hC3, small (by show 2 ≤ 1000; decide), fun t ht => ?_⟩
            have st := same_new ht (.tup [.int g, .ref pj])
            refine ⟨s3.trans st, by rw [List.length_append]; exact Nat.succ_le_succ hyl, ws ++ [(g, qj)], ?_, ?_, fun w => ?_⟩
            · rw [List.map_append]
              exact (hws.same st).snoc (way_at sqT_new (st.tup fj))
            · rw [List.pairwise_append]
              refine ⟨hrise, by simp, fun x hx y hy => ?_⟩
              rw [List.mem_singleton.mp hy]; exact big x hx
            · rw [List.mem_append, hmem w, htk, List.mem_append, List.mem_singleton, List.mem_singleton]
              constructor
              · rintro (⟨h1, h2, h3⟩ | e)
                · exact ⟨.inl h1, h2, h3⟩
                · rw [e]; exact ⟨.inr rfl, cc', vq⟩
              · rintro ⟨h1 | h1, h2, h3⟩
                · exact .inl ⟨h1, h2, h3⟩
                · right
                  rw [h1, vq] at h3
                  exact Prod.ext h1 h3.symm
          · have cc' : qj = 0 := by simpa using cc
            refine ⟨s3, Nat.le_succ_of_le hyl, ws, hws, hrise, fun w => ?_⟩
            rw [hmem w, htk, List.mem_append, List.mem_singleton]
            constructor
            · rintro ⟨h1, h2, h3⟩; exact ⟨.inl h1, h2, h3⟩
            · rintro ⟨h1 | h1, h2, h3⟩
              · exact ⟨h1, h2, h3⟩
              · rw [h1, vq, cc'] at h3
                exact absurd h3.symm h2
        · exact absurd hmg (hno m hm)
    · rintro ys H3 ⟨s3, hyl, ws, hws, hrise, hmem⟩ D hD
      have sD := same_new hD (.lst ys)
      rw [List.length_map] at hmem
      rw [List.take_length] at hmem
      have hwd : ws = dueL 0 gs := rise_eq hrise dueL_rise fun w => by
        rw [hmem w, dueL_mem]
        constructor
        · rintro ⟨_, h2, h3⟩; exact ⟨h2, h3⟩
        · rintro ⟨h2, h3⟩
          refine ⟨?_, h2, h3⟩
          by_cases hin : w.1 ∈ ms.map (·.1)
          · exact hperm.mem_iff.mpr hin
          · have := out w.1 fun m hm e => hin (List.mem_map.mpr ⟨m, hm, e⟩)
            rw [this] at h3
            exact absurd h3.symm h2
      subst hwd
      have u : Same H (upd H3 D (.lst ys)) := (s12.trans s3).trans sD
      refine ⟨_, rfl, D, ys, dueL 0 gs, rfl, sqL_new, hws.same sD, ⟨dueL_sm hzg, by have := dueL_len (gs := gs) (k := 0); (clear hD hyl hC2 hkln hl hkl hml hC1 hC hlen hu1 hone hl60; omega)⟩, fun H4 s4 => ⟨_, rfl, ?_⟩⟩
      rw [dueL_sum, hone, decide_eq_true rfl]
      refine iteF ?_
      exact ⟨_, rfl, q D H4 ys (u.trans s4) ((s12.trans s3).free hD) (s4 _ _ upd_same) ((hws.same sD).same s4)⟩
end
end Law
set_option Elab.async false
set_option linter.all false
set_option maxRecDepth 100000
set_option maxHeartbeats 4000000
local macro_rules | `(tactic| walk_at "rd") => `(tactic| repeat (first | refine ⟨_, rfl, ?_⟩ | refine ⟨_, _, rfl, rfl, ?_⟩ | refine ⟨rfl, ?_⟩ | refine ⟨_, _, _, _, rfl, rfl, by assumption, rfl, ?_⟩))
namespace Law
open PySem PySem.Spec PyProof.Rows L2 CH
section
variable {P : Program} {w : World} {K : PySem.W.Frag} {mg : Str → Option Value} {base : Heap}
theorem at0 {x y : V} : atI [x, y] 0 = some x := rfl
theorem at1 {x y : V} : atI [x, y] 1 = some y := rfl
noncomputable def frsD (qs : List Rat) : Dt := .lst (qs.map frD)
theorem At_frs {H : Hp} {qs : List Rat} {v : V} (h : At K H (frsD qs) v) : ∃ a, v = .ref a ∧ FrL K H a qs := by
  simp only [frsD, At] at h
  obtain ⟨a, xs, e, h1, h2⟩ := h
  exact ⟨a, e, xs, h1, h2⟩
structure ShOk (k : Nat) (ms : List Rat) : Prop where
  len : ms.length = k
  pos : ∀ q ∈ ms, ¬ q < 0
  sm : ∀ q ∈ ms, Sm 40 q
  one : rsum ms = 1
/-- the shares of a mix -/
structure MixOk (hs : List (List Door)) (mss : List (List Rat)) : Prop where
  len : mss.length = hs.length
  here : ∀ (i : Nat) (ds : List Door) (ms : List Rat), hs[i]? = some ds → mss[i]? = some ms → ShOk ds.length ms
/-- are these the shares of so many doors -/
noncomputable def shB (k : Nat) (ms : List Rat) : Bool := decide (ms.length = k) && (!(ms.map fun q => decide (q < 0)).any id) && decide (rsum ms = 1)
noncomputable def mixB (hs : List (List Door)) (mss : List (List Rat)) : Bool := decide (mss.length = hs.length) && ((hs.zip mss).map fun p => shB p.1.length p.2).all id
/-- shares of no great size -/
structure MixZ (mss : List (List Rat)) : Prop where
  len : mss.length ≤ 20
  lens : ∀ ms ∈ mss, ms.length ≤ 20
  sm : ∀ ms ∈ mss, ∀ q ∈ ms, Sm 60 q
theorem any_false : ∀ {bs : List Bool}, (∀ b ∈ bs, b = false) → bs.any id = false := fun h => by rw [List.any_eq_false]; intro b hb; rw [h b hb]; simp
theorem all_true : ∀ {bs : List Bool}, (∀ b ∈ bs, b = true) → bs.all id = true := fun h => by rw [List.all_eq_true]; intro b hb; rw [h b hb]; rfl
theorem ShOk.b {k : Nat} {ms : List Rat} (h : ShOk k ms) : shB k ms = true := by
  unfold shB
  rw [decide_eq_true h.len, decide_eq_true h.one, any_false]
  · rfl
  · intro b hb
    obtain ⟨q, hq, rfl⟩ := List.mem_map.mp hb
    exact decide_eq_false (h.pos q hq)
theorem MixOk.b {hs : List (List Door)} {mss : List (List Rat)} (h : MixOk hs mss) : mixB hs mss = true := by
  unfold mixB
  rw [decide_eq_true h.len, Bool.true_and]
  refine all_true fun b hb => ?_
  obtain ⟨p, hp, rfl⟩ := List.mem_map.mp hb
  obtain ⟨j, hj⟩ := List.getElem?_of_mem hp
  rw [List.getElem?_zip_eq_some] at hj
  exact (h.here j p.1 p.2 hj.1 hj.2).b
theorem MixOk.z {hs : List (List Door)} {mss : List (List Rat)} (g : GoodHouse hs) (h : MixOk hs mss) : MixZ mss := by
  have gl := g.len
  have hl := h.len
  have key : ∀ ms ∈ mss, ∃ ds ∈ hs, ShOk ds.length ms := fun ms hm => by
    obtain ⟨j, hj⟩ := List.getElem?_of_mem hm
    have hjl : j < hs.length := by rw [← hl]; exact (List.getElem?_eq_some_iff.mp hj).1
    exact ⟨_, List.getElem_mem hjl, h.here j _ ms (List.getElem?_eq_getElem hjl) hj⟩
  refine ⟨by omega, fun ms hm => ?_, fun ms hm q hq => ?_⟩
  · obtain ⟨ds, hd, ok⟩ := key ms hm
    have := (g.lens ds hd).2
    have := ok.len
    (clear hl gl; omega)
  · obtain ⟨ds, hd, ok⟩ := key ms hm
    exact (ok.sm q hq).mono (by decide)
theorem mixB_no {hs : List (List Door)} {mss : List (List Rat)} {j : Nat} {ds : List Door} {ms : List Rat} (h1 : hs[j]? = some ds) (h2 : mss[j]? = some ms) (h : shB ds.length ms = false) : mixB hs mss = false := by
  cases e : mixB hs mss with
  | false => rfl
  | true =>
    unfold mixB at e
    rw [Bool.and_eq_true, List.all_eq_true] at e
    have := e.2 (shB ds.length ms) (List.mem_map.mpr ⟨(ds, ms), List.mem_of_getElem? (i := j) (by rw [List.getElem?_zip_eq_some]; exact ⟨h1, h2⟩), rfl⟩)
    rw [h] at this
    cases this
theorem mixB_len {hs : List (List Door)} {mss : List (List Rat)} (h : mss.length ≠ hs.length) : mixB hs mss = false := by
  unfold mixB; rw [decide_eq_false h]; rfl
noncomputable abbrev sare_shares : Stmt := top 24
theorem scare_shares : FnScope ["doors", "shares"] ["doors", "shares"] (defScope sare_shares) := ⟨rfl, rfl, rfl, by decide +kernel, rfl, by decide +kernel, by decide +kernel⟩
noncomputable def spShares (K : PySem.W.Frag) : Sp := fun vs H Q _ => ∃ (a b : Addr) (us : List V) (ms : List Rat), vs = [.ref a, .ref b] ∧ SqL K H a us ∧ FrL K H b ms ∧ (∀ q ∈ ms, Sm 60 q) ∧ ms.length ≤ 20 ∧ us.length ≤ 100 ∧ ∀ H', Same H H' → Q (.bl (shB us.length ms)) H'
theorem ok_shares (B : Blt mg) (CNOUGHT : GlobT K mg "NOUGHT" 0 1) (CONE : GlobT K mg "ONE" 1 1) (Dless : Dfn P w K mg base 1 "less" ["one", "other"] (spLessR K)) (Dtotal : Dfn P w K mg base 4 "total" ["some"] (spTotalG K)) (T : TxtD K mg "are_shares" sare_shares ["doors", "shares"]) : Dfn P w K mg base 5 "are_shares" ["doors", "shares"] (spShares K) := by
  refine T.ok scare_shares (fun vs H Q E h => ?_) (fun f cdv A outer s H vs Q E hr h => ?_)
  · obtain ⟨a, b, us, ms, rfl, _⟩ := h
    rfl
  obtain ⟨a, b, us, ms, rfl, hS, ⟨ys, hT, hB⟩, sm, hm20, hl, q⟩ := h
  refine ⟨_, (pss_cons (ps_if (PW.pt (pw_or (pt_cmpR op_ne (pe_callB (lenK K) (by rfl) B.len boot_len (pa_cons (pv 1) pa_nil)) (pe_callB (lenK K) (by rfl) B.len boot_len (pa_cons (pv 0) pa_nil)) (nomark _)) (pw_or1 (pt_val (pe_callB (call_any K rfl) (by rfl) B.any boot_any (pa_cons (pe_comp ["share"] [] rfl (piL K (pv 1)) (fun Z nd => (pg_name (i := 0) nd rfl (Or.inl rfl))) (fun Z => pts_nil) (fun Z => (pe_callD Dless hr (pa_cons (pv 0) (pa_cons (pe_globT CNOUGHT) pa_nil))))) pa_nil))))))
        (pss_one (ps_ret pe_bl))
        pss_nil)
      (pss_one (ps_ret (pe_cmpR (eqK K (hu6 hr)) (pe_callD Dtotal hr (pa_cons (pv 1) pa_nil)) (pe_globT CONE) (nomark _))))), ?_⟩
  have hyl := hB.len
  refine ⟨_, rfl, _, _, rfl, .inl hT, _, rfl, _, _, rfl, .inl hS, rfl, _, rfl, ?_⟩
  by_cases hml : ms.length = us.length
  case neg =>
    rw [show (!decide (V.int (ys.length : Int) = V.int (us.length : Int))) = true by rw [hyl, decide_eq_false (fun z => hml (by injection z with z; (clear hml hl hm20; omega)))]; rfl]
    refine iteT ?_
    have e : shB us.length ms = false := by unfold shB; rw [decide_eq_false hml]; rfl
    have q := q H (Same.refl _)
    rw [e] at q
    exact q
  rw [show (!decide (V.int (ys.length : Int) = V.int (us.length : Int))) = false by rw [hyl, hml, decide_eq_true rfl]; rfl]
  refine iteF ?_
  refine ⟨_, rfl, b, rfl, ⟨_, hT⟩, comp_list (xs := ys) (fun i zs H' => H' = H ∧ zs = ((ms.take i).map fun q => decide (q < 0)).map V.bl) (small1000 (by (clear hml hl; omega))) ⟨rfl, by simp⟩ ?_ ?_ ?_⟩
  · rintro i zs H' hi ⟨rfl, rfl⟩
    refine ⟨hT, ?_⟩
    rw [List.length_map, List.length_map, List.length_take]; (clear hml hl hm20; omega)
  · rintro i x zs H' hx ⟨rfl, rfl⟩
    obtain ⟨r, p, hr', rfl, fr⟩ := hB.fr hx
    have hm := List.mem_of_getElem? hr'
    refine ⟨keep1, allT ⟨_, rfl, fun g hg => ⟨p, g, r, 0, 60, 1, rfl, fr, hg, sm r hm, Sm0, by decide, rfl, ?_⟩⟩⟩
    rw [take_snoc hr', List.map_append, List.map_append]; rfl
  rintro zs H1 ⟨e1, rfl⟩ D hD
  subst e1
  rw [List.take_of_length_le (by (clear hD hml hl hm20; omega))]
  have sD := same_new hD (.lst ((ms.map fun q => decide (q < 0)).map V.bl))
  refine ⟨D, ms.map fun q => decide (q < 0), rfl, sqL_new, _, rfl, ?_⟩
  cases ha : (ms.map fun q => decide (q < 0)).any id with
  | true =>
    refine iteT ?_
    have e : shB us.length ms = false := by unfold shB; rw [ha, Bool.not_true, Bool.and_false, Bool.false_and]
    have q := q _ sD
    rw [e] at q
    exact q
  | false =>
  refine iteF ?_
  refine ⟨_, rfl, b, ms, 60, rfl, ⟨ys, sD.seq hT, hB.same sD⟩, sm, by decide, by (clear ha hD hml hl; omega), fun p H2 s2 f2 z2 => ?_⟩
  refine fun g hg => ⟨_, _, f2.at, (frac_one hg).at, rfl, (show 1 ≤ 50 by decide), ⟨_, rfl⟩, ?_⟩
  rw [eqD_fr]
  have e : shB us.length ms = decide (rsum ms = 1) := by unfold shB; rw [ha, decide_eq_true hml]; rfl
  have q := q H2 (sD.trans s2)
  rw [e] at q
  exact q
noncomputable abbrev sis_mix : Stmt := top 25
theorem scis_mix : FnScope ["house", "mix"] ["house", "mix"] (defScope sis_mix) := ⟨rfl, rfl, rfl, by decide +kernel, rfl, by decide +kernel, by decide +kernel⟩
noncomputable def spMixB (K : PySem.W.Frag) : Sp := fun vs H Q _ => ∃ (a b : Addr) (us zs : List V) (hs : List (List Door)) (mss : List (List Rat)), vs = [.ref a, .ref b] ∧ SqL K H a us ∧ Ats K H (hs.map doorsD) us ∧ SqL K H b zs ∧ Ats K H (mss.map frsD) zs ∧ GoodHouse hs ∧ MixZ mss ∧ ∀ H', Same H H' → Q (.bl (mixB hs mss)) H'
theorem ok_ismix (B : Blt mg) (Dare_shares : Dfn P w K mg base 5 "are_shares" ["doors", "shares"] (spShares K)) (T : TxtD K mg "is_mix" sis_mix ["house", "mix"]) : Dfn P w K mg base 6 "is_mix" ["house", "mix"] (spMixB K) := by
  refine T.ok scis_mix (fun vs H Q E h => ?_) (fun f cdv A outer s H vs Q E hr h => ?_)
  · obtain ⟨a, b, us, zs, hs, mss, rfl, _⟩ := h
    rfl
  obtain ⟨a, b, us, zs, hs, mss, rfl, hS, hA, hT, hB, g, mz, q⟩ := h
  refine ⟨_, (pss_cons (ps_if (pt_cmpR op_ne (pe_callB (lenK K) (by rfl) B.len boot_len (pa_cons (pv 1) pa_nil)) (pe_callB (lenK K) (by rfl) B.len boot_len (pa_cons (pv 0) pa_nil)) (nomark _))
        (pss_one (ps_ret pe_bl))
        pss_nil)
      (pss_one (ps_ret (pe_callB (call_all K rfl) (by rfl) B.all boot_all (pa_cons (pe_comp ["doors", "shares"] [] rfl (pi_zip K rfl B.zip (pa_cons (pv 0) (pa_cons (pv 1) pa_nil))) (fun Z nd => (pgT K (n := 2) rfl (pgs_cons (pg_name (i := 0) nd rfl (Or.inl rfl)) (pgs_cons (pg_name (i := 1) nd rfl (Or.inl rfl)) pgs_nil)))) (fun Z => pts_nil) (fun Z => (pe_callD Dare_shares hr (pa_cons (pv 0) (pa_cons (pv 1) pa_nil))))) pa_nil))))), ?_⟩
  have hul := hA.len
  have hzl := hB.len
  have ml := mz.len
  have gl := g.len
  refine ⟨_, rfl, _, _, rfl, .inl hT, _, rfl, _, _, rfl, .inl hS, rfl, _, rfl, ?_⟩
  by_cases hml : mss.length = hs.length
  case neg =>
    rw [show (!decide (V.int (zs.length : Int) = V.int (us.length : Int))) = true by rw [hzl, hul, decide_eq_false (fun z => hml (by injection z with z; (clear hml gl ml hzl hul; omega)))]; rfl]
    refine iteT ?_
    have q := q H (Same.refl _)
    rw [mixB_len hml] at q
    exact q
  rw [show (!decide (V.int (zs.length : Int) = V.int (us.length : Int))) = false by rw [hzl, hul, hml, decide_eq_true rfl]; rfl]
  refine iteF ?_
  refine ⟨_, rfl, _, rfl, a, b, us, zs, rfl, hS, hT, comp_zip (xs := us) (zs := zs) (fun i ys H' => Same H H' ∧ ys = (((hs.zip mss).take i).map fun p => shB p.1.length p.2).map V.bl) (by (clear gl ml; omega)) (small1000 (by (clear ml hzl; omega))) ⟨Same.refl _, by simp⟩ ?_ ?_ ?_⟩
  · rintro i ys H' hi ⟨s1, rfl⟩
    refine ⟨s1.seq hS, s1.seq hT, ?_⟩
    rw [List.length_map, List.length_map, List.length_take]; (clear hi hml gl ml hzl hul; omega)
  · rintro i x z ys H1 t hx hz' ⟨s1, rfl⟩ ht
    have st := same_new ht (.tup [x, z])
    obtain ⟨ds, hds, had⟩ := hA.gets hx
    obtain ⟨ms, hms, ham⟩ := hB.gets hz'
    obtain ⟨da, dx, rfl, hd1, hd2⟩ := had.doors
    obtain ⟨ma, rfl, hm1⟩ := At_frs ham
    have dl := g.lens ds (List.mem_of_getElem? hds)
    have hdl := hd2.len
    have mm := List.mem_of_getElem? hms
    have s1t := s1.trans st
    have hz : (hs.zip mss)[i]? = some (ds, ms) := by rw [List.getElem?_zip_eq_some]; exact ⟨hds, hms⟩
    refine ⟨t, _, rfl, sqT_new, rfl, _, _, rfl, _, _, rfl, rfl, keep2, allT ⟨_, rfl, _, rfl, da, ma, dx, ms, rfl, s1t.seq hd1, hm1.same s1t, mz.sm ms mm, mz.lens ms mm, by (clear hz hz' hx hms hds ht hml gl ml hzl hul; omega), fun H2 s2 => ⟨s1t.trans s2, ?_⟩⟩⟩
    rw [take_snoc hz, List.map_append, List.map_append, hdl]; rfl
  rintro ys H1 ⟨s1, rfl⟩ D hD
  rw [List.take_of_length_le (by rw [List.length_zip]; (clear hD gl ml hzl; omega))]
  have sD := same_new hD (.lst (((hs.zip mss).map fun p => shB p.1.length p.2).map V.bl))
  refine ⟨D, _, rfl, sqL_new, ?_⟩
  have q := q _ (s1.trans sD)
  have e : mixB hs mss = ((hs.zip mss).map fun p => shB p.1.length p.2).all id := by unfold mixB; rw [decide_eq_true hml]; rfl
  rw [e] at q
  exact q
/-- a house and lists of shares: a mix's end, or a refusal -/
noncomputable def spMixX (K : PySem.W.Frag) (C : Addr) (r : Hp → List (List Door) → List (List Rat) → V → Hp → Prop) : Sp := fun vs H Q E => ∃ (a b : Addr) (us zs : List V) (hs : List (List Door)) (mss : List (List Rat)), vs = [.ref a, .ref b] ∧ SqL K H a us ∧ Ats K H (hs.map doorsD) us ∧ SqL K H b zs ∧ Ats K H (mss.map frsD) zs ∧ GoodHouse hs ∧
  ((MixOk hs mss ∧ ∀ v H', Same H H' → r H hs mss v H' → Q v H') ∨ (MixZ mss ∧ mixB hs mss = false ∧ ∀ H', Same H H' → E (.ref C) none H'))
noncomputable abbrev srefuse_no_mix : Stmt := top 26
theorem screfuse_no_mix : FnScope ["house", "mix"] ["house", "mix"] (defScope srefuse_no_mix) := ⟨rfl, rfl, rfl, by decide +kernel, rfl, by decide +kernel, by decide +kernel⟩
theorem ok_refuse {C : Addr} (hm : mg "NoRule" = some (.ref C)) (hq : PySem.W.excIn K C mroVE "ValueError.__new__" = true) (Dis_mix : Dfn P w K mg base 6 "is_mix" ["house", "mix"] (spMixB K)) (T : TxtD K mg "refuse_no_mix" srefuse_no_mix ["house", "mix"]) : DfnX P w K mg base 7 "refuse_no_mix" ["house", "mix"] (spMixX K C fun _ _ _ v _ => v = .non) := by
  refine T.okX screfuse_no_mix (fun vs H Q E h => ?_) (fun f cdv A outer s H vs Q E hr h => ?_)
  · obtain ⟨a, b, us, zs, hs, mss, rfl, _⟩ := h
    rfl
  obtain ⟨a, b, us, zs, hs, mss, rfl, hS, hA, hT, hB, g, ok⟩ := h
  refine ⟨_, (pss_one (ps_if (pt_not (pt_val (pe_callD Dis_mix hr (pa_cons (pv 0) (pa_cons (pv 1) pa_nil)))))
        (pss_one (ps_raise throw_cx rfl hm hq PySem.F.excBase_ValueError (pa_cons pe_str pa_nil)))
        pss_nil)), ?_⟩
  refine ⟨_, rfl, _, rfl, a, b, us, zs, hs, mss, rfl, hS, hA, hT, hB, g, ?_⟩
  rcases ok with ⟨ok, q⟩ | ⟨mz, bad, qx⟩
  · refine ⟨ok.z g, fun H1 s1 => ?_⟩
    rw [ok.b]
    exact ⟨_, rfl, iteF (q .non H1 s1 rfl)⟩
  · refine ⟨mz, fun H1 s1 => ?_⟩
    rw [bad]
    exact ⟨_, rfl, iteT ⟨small (by show 1 ≤ 1000; decide), qx H1 s1⟩⟩
/-! ### the pairs of a mix -/
noncomputable def mixP (zs : List (Door × Rat)) : List Way := (zs.map fun z => z.1.2.map fun w => (w.1, z.2 * w.2)).flatten
noncomputable def mixG (n : Nat) (ps : List Way) : List Rat := (List.range n).map fun r => pf ps (ind ((r : Nat) : Int))
theorem pf_append (a b : List Way) (f : Int → Rat) : pf (a ++ b) f = pf a f + pf b f := by
  unfold pf; rw [List.map_append, rsum_append]
theorem mixP_snoc (zs : List (Door × Rat)) (z : Door × Rat) : mixP (zs ++ [z]) = mixP zs ++ z.1.2.map fun w => (w.1, z.2 * w.2) := by
  unfold mixP; rw [List.map_append, List.flatten_append]; simp
theorem mixP_cons (zs : List (Door × Rat)) (z : Door × Rat) : mixP (z :: zs) = (z.1.2.map fun w => (w.1, z.2 * w.2)) ++ mixP zs := by
  unfold mixP; simp
theorem pf_scale (ws : List Way) (c : Rat) (f : Int → Rat) : pf (ws.map fun w => (w.1, c * w.2)) f = c * pf ws f := by
  unfold pf
  rw [← rsum_mul, List.map_map, List.map_map]
  congr 1
  apply List.map_congr_left
  intro w _
  show c * w.2 * f w.1 = c * (w.2 * f w.1)
  rw [Rat.mul_assoc]
theorem dotF_add : ∀ (l : List Nat) (k : Int) (a b : Nat → Rat) (f : Int → Rat), dotF k (l.map fun r => a r + b r) f = dotF k (l.map a) f + dotF k (l.map b) f
  | [], _, _, _, _ => by show (0 : Rat) = 0 + 0; rw [Rat.add_zero]
  | x :: l, k, a, b, f => by
    show (a x + b x) * f k + dotF (k + 1) (l.map fun r => a r + b r) f = a x * f k + dotF (k + 1) (l.map a) f + (b x * f k + dotF (k + 1) (l.map b) f)
    rw [dotF_add l (k + 1) a b f, Rat.add_mul]
    grind
theorem dotF_nought : ∀ {gs : List Rat} {k : Int} {f : Int → Rat}, (∀ q ∈ gs, q = 0) → dotF k gs f = 0
  | [], _, _, _ => rfl
  | g :: gs, k, f, h => by
    show g * f k + dotF (k + 1) gs f = 0
    rw [h g (by simp), dotF_nought (gs := gs) fun q hq => h q (List.mem_cons_of_mem _ hq), Rat.zero_mul, Rat.add_zero]
theorem dotF_app : ∀ {a b : List Rat} {k : Int} {f : Int → Rat}, dotF k (a ++ b) f = dotF k a f + dotF (k + (a.length : Int)) b f
  | [], b, k, f => by
    show dotF k b f = 0 + dotF (k + 0) b f
    rw [Int.add_zero, Rat.zero_add]
  | x :: a, b, k, f => by
    show x * f k + dotF (k + 1) (a ++ b) f = x * f k + dotF (k + 1) a f + dotF (k + ((a.length + 1 : Nat) : Int)) b f
    have e : k + ((a.length + 1 : Nat) : Int) = k + 1 + (a.length : Int) := by omega
    rw [dotF_app, e, Rat.add_assoc]
theorem dotF_unit {n : Nat} {g : Int} {c : Rat} {f : Int → Rat} (h0 : 0 ≤ g) (h1 : g < (n : Int)) : dotF 0 ((List.range n).map fun r => c * ind ((r : Nat) : Int) g) f = c * f g := by
  induction n with
  | zero => omega
  | succ n ih =>
    rw [List.range_succ, List.map_append, dotF_app]
    show _ + ((c * ind ((n : Nat) : Int) g) * f (0 + (((List.range n).map _).length : Int)) + 0) = _
    rw [List.length_map, List.length_range, Rat.add_zero]
    have e0 : (0 : Int) + (n : Int) = (n : Int) := by (clear h1 ih h0; omega)
    rw [e0]
    by_cases hg : g = (n : Int)
    · rw [dotF_nought fun q hq => by
        obtain ⟨r, hr, rfl⟩ := List.mem_map.mp hq
        have := List.mem_range.mp hr
        unfold ind
        rw [if_neg (by (clear e0 h1 ih h0; omega)), Rat.mul_zero]]
      unfold ind
      rw [if_pos hg, Rat.zero_add, Rat.mul_one, hg]
    · rw [ih (by (clear e0 ih h0; omega))]
      unfold ind
      rw [if_neg hg, Rat.mul_zero, Rat.zero_mul, Rat.add_zero]
theorem mixG_dot {n : Nat} {f : Int → Rat} : ∀ {ps : List Way}, (∀ p ∈ ps, 0 ≤ p.1 ∧ p.1 < (n : Int)) → pf ps f = dotF 0 (mixG n ps) f
  | [], _ => by
    rw [dotF_nought]
    · rfl
    · intro q hq
      unfold mixG at hq
      obtain ⟨r, _, rfl⟩ := List.mem_map.mp hq
      rfl
  | p :: ps, h => by
    have ih := mixG_dot (n := n) (f := f) (ps := ps) fun x hx => h x (List.mem_cons_of_mem _ hx)
    have hp := h p (by simp)
    rw [pf_cons, ih]
    unfold mixG
    have e : (List.range n).map (fun r => pf (p :: ps) (ind ((r : Nat) : Int))) = (List.range n).map fun r => p.2 * ind ((r : Nat) : Int) p.1 + pf ps (ind ((r : Nat) : Int)) := by
      apply List.map_congr_left
      intro r _
      rw [pf_cons]
    rw [e, dotF_add, dotF_unit hp.1 hp.2]
theorem mixG_sm {n : Nat} {ps : List Way} (h : ∀ p ∈ ps, Sm 80 p.2) (hl : ps.length ≤ 40) : ∀ q ∈ mixG n ps, Sm 4000 q := fun q hq => by
  unfold mixG at hq
  obtain ⟨r, _, rfl⟩ := List.mem_map.mp hq
  unfold pf
  have h1 : ∀ x ∈ ps.map (fun p => p.2 * ind ((r : Nat) : Int) p.1), Sm 81 x := fun x hx => by
    obtain ⟨p, hp, rfl⟩ := List.mem_map.mp hx
    refine (h p hp).mul (n := 1) ?_
    unfold ind
    split
    · exact ⟨by decide, by decide⟩
    · exact Sm0
  refine (Sm_rsum h1).mono ?_
  rw [List.length_map]; omega
theorem mixG_one {n : Nat} {ps : List Way} (h : ∀ p ∈ ps, 0 ≤ p.1 ∧ p.1 < (n : Int)) : rsum (mixG n ps) = pf ps (fun _ => 1) := by
  rw [mixG_dot h]
  have : ∀ {gs : List Rat} {k : Int}, dotF k gs (fun _ => 1) = rsum gs := by
    intro gs
    induction gs with
    | nil => intro k; rfl
    | cons g gs ih => intro k; show g * 1 + dotF (k + 1) gs _ = _; rw [ih, rsum_cons, Rat.mul_one]
  rw [this]
theorem mixP_pf : ∀ {ds : List Door} {ms : List Rat} {f : Int → Rat}, ds.length = ms.length → pf (mixP (ds.zip ms)) f = rsum ((ms.zip (ds.map fun d => pf d.2 f)).map fun p => p.1 * p.2)
  | [], [], _, _ => rfl
  | [], _ :: _, _, h => by simp at h
  | _ :: _, [], _, h => by simp at h
  | d :: ds, m :: ms, f, h => by
    rw [List.zip_cons_cons, mixP_cons, pf_append, pf_scale, mixP_pf (by simpa using h), List.map_cons, List.zip_cons_cons, List.map_cons, rsum_cons]
theorem zip_one : ∀ {ms : List Rat} {qs : List Rat}, ms.length = qs.length → (∀ q ∈ qs, q = 1) → rsum ((ms.zip qs).map fun p => p.1 * p.2) = rsum ms
  | [], [], _, _ => rfl
  | [], _ :: _, h, _ => by simp at h
  | _ :: _, [], h, _ => by simp at h
  | m :: ms, q :: qs, h, h1 => by
    rw [List.zip_cons_cons, List.map_cons, rsum_cons, rsum_cons, zip_one (by simpa using h) fun x hx => h1 x (List.mem_cons_of_mem _ hx)]
    show m * q + _ = _
    rw [h1 q (by simp), Rat.mul_one]
theorem pf_one (ws : List Way) : pf ws (fun _ => 1) = rsum (ws.map (·.2)) := by
  unfold pf
  congr 1
  apply List.map_congr_left
  intro w _
  exact Rat.mul_one _
end
end Law
set_option Elab.async false
set_option linter.all false
set_option maxRecDepth 100000
set_option maxHeartbeats 4000000
local macro_rules | `(tactic| walk_at "rd") => `(tactic| repeat (first | refine ⟨_, rfl, ?_⟩ | refine ⟨_, _, rfl, rfl, ?_⟩ | refine ⟨rfl, ?_⟩ | refine ⟨_, _, _, _, rfl, rfl, by assumption, rfl, ?_⟩))
namespace Law
open PySem PySem.Spec PyProof.Rows L2 CH
section
variable {P : Program} {w : World} {K : PySem.W.Frag} {mg : Str → Option Value} {base : Heap}
theorem zip_at {α β : Type} {a : List α} {b : List β} {i : Nat} {x : α} {y : β} (h1 : a[i]? = some x) (h2 : b[i]? = some y) : (a.zip b)[i]? = some (x, y) := by
  rw [List.getElem?_zip_eq_some]; exact ⟨h1, h2⟩
theorem mixP_mem {zs : List (Door × Rat)} {p : Way} (h : p ∈ mixP zs) : ∃ z ∈ zs, ∃ w ∈ z.1.2, p = (w.1, z.2 * w.2) := by
  unfold mixP at h
  obtain ⟨l, hl, hp⟩ := List.mem_flatten.mp h
  obtain ⟨z, hz, rfl⟩ := List.mem_map.mp hl
  obtain ⟨w, hw, rfl⟩ := List.mem_map.mp hp
  exact ⟨z, hz, w, hw, rfl⟩
theorem nonneg_mul {a b : Rat} (ha : ¬ a < 0) (hb : 0 < b) : ¬ a * b < 0 := by
  rw [Rat.not_lt] at ha ⊢
  exact Rat.mul_nonneg ha (Rat.le_of_lt hb)
noncomputable abbrev smixed_row : Stmt := top 27
theorem scmixed_row : FnScope ["doors", "shares", "many", "pairs", "door", "share", "room", "chance"] ["doors", "shares", "many"] (defScope smixed_row) := ⟨rfl, rfl, rfl, by decide +kernel, rfl, by decide +kernel, by decide +kernel⟩
noncomputable def spMixRow (K : PySem.W.Frag) : Sp := fun vs H Q _ => ∃ (a b : Addr) (n : Nat) (us : List V) (ds : List Door) (ms : List Rat), vs = [.ref a, .ref b, .int (n : Int)] ∧ SqL K H a us ∧ Ats K H (ds.map doorD) us ∧ FrL K H b ms ∧ ShOk ds.length ms ∧ ds.length ≤ 4 ∧ n ≤ 10 ∧ (∀ d ∈ ds, GoodRow n d.2) ∧
  ∀ (D : Addr) (H' : Hp) (ys : List V), Same H H' → H D = none → H' D = some (.lst ys) → Ats K H' ((dueL 0 (mixG n (mixP (ds.zip ms)))).map wD) ys → Q (.ref D) H'
theorem ok_mixrow (B : Blt mg) (Dtimes : Dfn P w K mg base 3 "times" ["one", "other"] (spOp2 K fun q r => q * r)) (Drow_of : Dfn P w K mg base 6 "row_of" ["pairs", "many"] (spRowOf K)) (T : TxtD K mg "mixed_row" smixed_row ["doors", "shares", "many"]) : Dfn P w K mg base 7 "mixed_row" ["doors", "shares", "many"] (spMixRow K) := by
  refine T.ok scmixed_row (fun vs H Q E h => ?_) (fun f cdv A outer s H vs Q E hr h => ?_)
  · obtain ⟨a, b, n, us, ds, ms, rfl, _⟩ := h
    rfl
  obtain ⟨a, b, n, us, ds, ms, rfl, hS, hA, ⟨zs, hT, hB⟩, sh, hd4, hn10, hgr, q⟩ := h
  refine ⟨_, (pss_cons (ps_set (i := 3) scmixed_row.nd rfl (Or.inl rfl) (pe_lst pa_nil))
      (pss_cons (ps_for PassesOwn.never rfl (pi_zip K rfl B.zip (pa_cons (pv 0) (pa_cons (pv 1) pa_nil))) (pgT K (n := 2) rfl (pgs_cons (pg_name (i := 4) scmixed_row.nd rfl (Or.inl rfl)) (pgs_cons (pg_name (i := 5) scmixed_row.nd rfl (Or.inl rfl)) pgs_nil)))
        (pss_one (ps_for PassesOwn.never rfl (piL K (pe_ix (ixT K) (pv 4) pe_int (fun _ _ => rfl))) (pgT K (n := 2) rfl (pgs_cons (pg_name (i := 6) scmixed_row.nd rfl (Or.inl rfl)) (pgs_cons (pg_name (i := 7) scmixed_row.nd rfl (Or.inl rfl)) pgs_nil)))
          (pss_one (ps_expr (pe_bm PySem.F.plainAttrs_list PySem.F.slot_list_append PySem.F.type_list_append mt_append (pv 3) (pa_cons (pe_tup (pa_cons (pv 6) (pa_cons (pe_callD Dtimes hr (pa_cons (pv 5) (pa_cons (pv 7) pa_nil))) pa_nil))) pa_nil)))))))
      (pss_one (ps_ret (pe_callD Drow_of hr (pa_cons (pv 3) (pa_cons (pv 2) pa_nil))))))), ?_⟩
  have hul := hA.len
  have hzl := hB.len
  have hml := sh.len
  refine ⟨small (by decide), fun L hL => ?_⟩
  have sL := same_new hL (.lst [])
  refine ⟨_, rfl, _, rfl, a, b, us, zs, rfl, sL.seq hS, sL.seq hT, for_zip (a := a) (b := b) (xs := us) (zs := zs) (fun i σ H' => ∃ (o4 o5 o6 o7 : Option V) (ys : List V), σ = [some (.ref a), some (.ref b), some (.int (n : Int)), some (.ref L), o4, o5, o6, o7] ∧ Same H H' ∧ H' L = some (.lst ys) ∧ Ats K H' ((mixP ((ds.zip ms).take i)).map wD) ys ∧ (mixP ((ds.zip ms).take i)).length ≤ 10 * i) (by (clear hL hn10 hd4; omega)) ?_ ?_ ?_ ?_⟩
  · exact ⟨_, _, _, _, [], rfl, sL, upd_same, by simp [Ats, mixP], by simp [mixP]⟩
  · rintro i σ H' _ ⟨o4, o5, o6, o7, ys, rfl, s1, _⟩
    exact ⟨s1.seq hS, s1.seq hT⟩
  · rintro i x z σ H1 t hx hz' ⟨o4, o5, o6, o7, ys, rfl, s1, hL1, hA1, hl1⟩ ht
    have st := same_new ht (.tup [x, z])
    obtain ⟨d, hd, had⟩ := hA.gets hx
    obtain ⟨p, cc, ra, rx, rfl, hpt, fcc, hr1, hr2⟩ := had.door
    obtain ⟨m, pm, hm, rfl, fm⟩ := hB.fr hz'
    have zat := zip_at hd hm
    have gr := hgr d (List.mem_of_getElem? hd)
    have zm := sh.sm m (List.mem_of_getElem? hm)
    have hi4 : i < ds.length := (List.getElem?_eq_some_iff.mp hd).1
    have hrl := hr2.len
    have grl := gr.len
    have s1t := s1.trans st
    refine ⟨t, _, rfl, sqT_new, rfl, _, _, rfl, _, _, rfl, rfl, ?_⟩
    refine ⟨_, rfl, p, _, _, _, rfl, rfl, s1t.tup hpt, at1, ra, rfl, ⟨_, s1t.seq hr1⟩, for_list (xs := rx) (fun j σ H' => j ≤ d.2.length ∧ ∃ (o6 o7 : Option V) (ys : List V), σ = [some (.ref a), some (.ref b), some (.int (n : Int)), some (.ref L), some (.ref p), some (.ref pm), o6, o7] ∧ Same H H' ∧ H' L = some (.lst ys) ∧ Ats K H' ((mixP ((ds.zip ms).take i) ++ (d.2.take j).map fun w => (w.1, m * w.2)).map wD) ys) ?_ ?_ ?_ ?_⟩
    · exact ⟨Nat.zero_le _, _, _, ys, rfl, s1t, st _ _ hL1, by rw [List.take_zero, List.map_nil, List.append_nil]; exact hA1.same st⟩
    · rintro j σ H' _ ⟨_, o6, o7, ys, rfl, s2, _⟩
      exact s2.seq hr1
    · rintro j y σ H2 hy ⟨hj, o6, o7, ys, rfl, s2, hL2, hA2⟩
      obtain ⟨w', tp, c, hw', rfl, htp, fc⟩ := (hr2.same s2).way hy
      have hjl : j < d.2.length := (List.getElem?_eq_some_iff.mp hw').1
      obtain ⟨w0, w1, w2, w3⟩ := gr.way w' (List.mem_of_getElem? hw')
      have hyl := hA2.length
      rw [List.length_map, List.length_append, List.length_map, List.length_take] at hyl
      refine ⟨tp, _, rfl, htp, rfl, _, _, rfl, _, _, rfl, rfl, ?_⟩
      refine ⟨_, rfl, .inl ⟨rfl, _, SqL.of hL2⟩, _, rfl, _, rfl, _, rfl, pm, c, m, w'.2, 40, 40, rfl, s2.tup fm, fc, zm, w3, by decide, fun p3 H3 s3 f3 => ⟨small (by show 2 ≤ 1000; decide), fun t2 ht2 => ?_⟩⟩
      have st2 := same_new ht2 (.tup [.int w'.1, .ref p3])
      have hL3 := (s3.trans st2) _ _ hL2
      refine ⟨L, ys, _, rfl, rfl, hL3, small1000 (by (clear hL3 ht2 w2 w1 w0 hy hw' hL2 hj zat hz' hm hx hd ht hL1 hL hzl hn10; omega)), ?_⟩
      refine ⟨hjl, _, _, _, rfl, same_upd (s2.trans (s3.trans st2)) hL, upd_same, ?_⟩
      have e : (d.2.take (j + 1)).map (fun w => (w.1, m * w.2)) = (d.2.take j).map (fun w => (w.1, m * w.2)) ++ [(w'.1, m * w'.2)] := by rw [take_snoc hw', List.map_append]; rfl
      rw [e, ← List.append_assoc, List.map_append]
      refine Ats.append ((hA2.same (s3.trans st2)).wayUpd hL3) ?_
      simp only [List.map_cons, List.map_nil, Ats]
      exact ⟨_, [], rfl, (way_at sqT_new (st2.tup f3)).wayUpd hL3, rfl⟩
    · rintro σ H2 ⟨hj, o6, o7, ys, rfl, s2, hL2, hA2⟩
      rw [hrl, List.take_length] at hA2
      refine ⟨_, _, _, _, ys, rfl, s2, hL2, ?_, ?_⟩
      · rw [take_snoc zat, mixP_snoc]; exact hA2
      · rw [take_snoc zat, mixP_snoc, List.length_append, List.length_map]
        show _ + d.2.length ≤ _
        (clear hL2 hj hi4 zat hz' hm hx hd ht hL1 hL hml hzl hul hn10 hd4; omega)
  · rintro σ H1 ⟨o4, o5, o6, o7, ys, rfl, s1, hL1, hA1, hl1⟩
    rw [List.take_of_length_le (by rw [List.length_zip]; (clear hl1 hL1 hL hzl hn10 hd4; omega))] at hA1 hl1
    have mem : ∀ p ∈ mixP (ds.zip ms), 0 ≤ p.1 ∧ p.1 < (n : Int) ∧ ¬ p.2 < 0 ∧ Sm 80 p.2 := fun p hp => by
      obtain ⟨z, hz, w', hw', rfl⟩ := mixP_mem hp
      have hz2 := List.of_mem_zip (show (z.1, z.2) ∈ ds.zip ms from hz)
      obtain ⟨w0, w1, w2, w3⟩ := (hgr z.1 hz2.1).way w' hw'
      exact ⟨w0, w1, nonneg_mul (sh.pos z.2 hz2.2) w2, (sh.sm z.2 hz2.2).mul w3⟩
    have mem2 : ∀ p ∈ mixP (ds.zip ms), 0 ≤ p.1 ∧ p.1 < (n : Int) := fun p hp => ⟨(mem p hp).1, (mem p hp).2.1⟩
    refine ⟨_, rfl, _, rfl, L, n, ys, mixP (ds.zip ms), mixG n (mixP (ds.zip ms)), rfl, SqL.of hL1, hA1, mem, by (clear hL1 hL hzl hn10; omega), hn10, by unfold mixG; rw [List.length_map, List.length_range], fun f => mixG_dot mem2, ?_, mixG_sm (fun p hp => (mem p hp).2.2.2) (by (clear hL1 hL hzl hn10; omega)), fun D H2 ys2 s2 n2 h2 hA2 => q D H2 ys2 (s1.trans s2) (s1.free n2) h2 hA2⟩
    rw [mixG_one mem2, mixP_pf (by (clear hl1 hL1 hL hzl hn10 hd4; omega)), zip_one (by rw [List.length_map]; (clear hl1 hL1 hL hzl hul hn10 hd4; omega)), sh.one]
    intro x hx
    obtain ⟨d, hd, rfl⟩ := List.mem_map.mp hx
    rw [pf_one]; exact (hgr d hd).one
noncomputable def psumR (zs : List (Rat × Rat)) : Rat := rsum (zs.map fun p => p.1 * p.2)
noncomputable abbrev smixed_cost : Stmt := top 28
theorem scmixed_cost : FnScope ["doors", "shares"] ["doors", "shares"] (defScope smixed_cost) := ⟨rfl, rfl, rfl, by decide +kernel, rfl, by decide +kernel, by decide +kernel⟩
noncomputable def spMixCost (K : PySem.W.Frag) : Sp := fun vs H Q _ => ∃ (a b : Addr) (us : List V) (ds : List Door) (ms : List Rat), vs = [.ref a, .ref b] ∧ SqL K H a us ∧ Ats K H (ds.map doorD) us ∧ FrL K H b ms ∧ ShOk ds.length ms ∧ ds.length ≤ 4 ∧ (∀ d ∈ ds, Sm 40 d.1) ∧
  ∀ (p : Addr) (H' : Hp), Same H H' → FracT K H' p (psumR (ms.zip (ds.map (·.1)))) → Q (.ref p) H'
theorem ok_mixcost (B : Blt mg) (Dtimes : Dfn P w K mg base 3 "times" ["one", "other"] (spOp2 K fun q r => q * r)) (Dtotal : Dfn P w K mg base 4 "total" ["some"] (spTotalG K)) (T : TxtD K mg "mixed_cost" smixed_cost ["doors", "shares"]) : Dfn P w K mg base 5 "mixed_cost" ["doors", "shares"] (spMixCost K) := by
  refine T.ok scmixed_cost (fun vs H Q E h => ?_) (fun f cdv A outer s H vs Q E hr h => ?_)
  · obtain ⟨a, b, us, ds, ms, rfl, _⟩ := h
    rfl
  obtain ⟨a, b, us, ds, ms, rfl, hS, hA, ⟨zs, hT, hB⟩, sh, hd4, hc, q⟩ := h
  refine ⟨_, (pss_one (ps_ret (pe_callD Dtotal hr (pa_cons (pe_comp ["door", "share"] [] rfl (pi_zip K rfl B.zip (pa_cons (pv 0) (pa_cons (pv 1) pa_nil))) (fun Z nd => (pgT K (n := 2) rfl (pgs_cons (pg_name (i := 0) nd rfl (Or.inl rfl)) (pgs_cons (pg_name (i := 1) nd rfl (Or.inl rfl)) pgs_nil)))) (fun Z => pts_nil) (fun Z => (pe_callD Dtimes hr (pa_cons (pv 1) (pa_cons (pe_ix (ixT K) (pv 0) pe_int (fun _ _ => rfl)) pa_nil))))) pa_nil)))), ?_⟩
  have hul := hA.len
  have hzl := hB.len
  have hml := sh.len
  refine ⟨_, rfl, _, rfl, a, b, us, zs, rfl, hS, hT, comp_zip (xs := us) (zs := zs) (fun i ys H' => Same H H' ∧ ys.length ≤ i ∧ Ats K H' ((((ms.zip (ds.map (·.1))).take i).map fun p => p.1 * p.2).map frD) ys) (by (clear hd4; omega)) (small1000 (by (clear hzl; omega))) ⟨Same.refl _, Nat.le_refl _, by simp [Ats]⟩ (fun i ys H' _ h => ⟨h.1.seq hS, h.1.seq hT, h.2.1⟩) ?_ ?_⟩
  · rintro i x z ys H1 t hx hz' ⟨s1, hyl, hA1⟩ ht
    have st := same_new ht (.tup [x, z])
    obtain ⟨d, hd, had⟩ := hA.gets hx
    obtain ⟨p, cc, ra, rx, rfl, hpt, fcc, hr1, hr2⟩ := had.door
    obtain ⟨m, pm, hm, rfl, fm⟩ := hB.fr hz'
    have zat : (ms.zip (ds.map (·.1)))[i]? = some (m, d.1) := zip_at hm (by rw [List.getElem?_map, hd]; rfl)
    have s1t := s1.trans st
    refine ⟨t, _, rfl, sqT_new, rfl, _, _, rfl, _, _, rfl, rfl, keep2, allT ⟨_, rfl, _, rfl, p, _, _, _, rfl, rfl, s1t.tup hpt, at0, pm, cc, m, d.1, 40, 40, rfl, s1t.tup fm, s1t.tup fcc, sh.sm m (List.mem_of_getElem? hm), hc d (List.mem_of_getElem? hd), by decide, fun p2 H2 s2 f2 => ⟨s1t.trans s2, by rw [List.length_append]; exact Nat.succ_le_succ hyl, ?_⟩⟩⟩
    rw [take_snoc zat, List.map_append, List.map_append]
    exact (hA1.same (st.trans s2)).snoc (FracT.at f2)
  · rintro ys H1 ⟨s1, hyl, hA1⟩ D hD
    rw [List.take_of_length_le (by rw [List.length_zip, List.length_map]; (clear hD hyl hzl hd4; omega))] at hA1
    have sD := same_new hD (.lst ys)
    refine ⟨D, _, 80, rfl, FrL.new hD hA1, fun r hr' => ?_, by decide, by rw [List.length_map, List.length_zip, List.length_map]; (clear hD hyl hzl; omega), fun p2 H2 s2 f2 _ => q p2 H2 ((s1.trans sD).trans s2) f2⟩
    obtain ⟨z, hz, rfl⟩ := List.mem_map.mp hr'
    have hz2 := List.of_mem_zip (show (z.1, z.2) ∈ ms.zip (ds.map (·.1)) from hz)
    obtain ⟨d, hd, e⟩ := List.mem_map.mp hz2.2
    have zz : Sm 40 z.2 := by rw [← e]; exact hc d hd
    exact (sh.sm z.1 hz2.1).mul zz
noncomputable def chainM (hs : List (List Door)) (mss : List (List Rat)) : List (List Way) := (hs.zip mss).map fun z => dueL 0 (mixG hs.length (mixP (z.1.zip z.2)))
noncomputable def costsM (hs : List (List Door)) (mss : List (List Rat)) : List Rat := (hs.zip mss).map fun z => psumR (z.2.zip (z.1.map (·.1)))
/-- a new list of new rows -/
noncomputable def NewL (H H' : Hp) (x : V) : Prop := ∃ l ys, x = .ref l ∧ H l = none ∧ H' l = some (.lst ys)
theorem NewL.same {H H1 H2 : Hp} {x : V} (h : NewL H H1 x) (s : Same H1 H2) : NewL H H2 x := by
  obtain ⟨l, ys, e, n, h⟩ := h
  exact ⟨l, ys, e, n, s _ _ h⟩
noncomputable def rRows (K : PySem.W.Frag) : Hp → List (List Door) → List (List Rat) → V → Hp → Prop := fun H hs mss v H' => ∃ D xs, v = .ref D ∧ H' D = some (.lst xs) ∧ (∀ x ∈ xs, NewL H H' x ∧ x ≠ .ref D) ∧ Ats K H' ((chainM hs mss).map rowD) xs
noncomputable abbrev schain_mixed : Stmt := top 29
theorem scchain_mixed : FnScope ["house", "mix"] ["house", "mix"] (defScope schain_mixed) := ⟨rfl, rfl, rfl, by decide +kernel, rfl, by decide +kernel, by decide +kernel⟩
theorem ok_chainmixed {C : Addr} (B : Blt mg) (Drefuse_no_mix : DfnX P w K mg base 7 "refuse_no_mix" ["house", "mix"] (spMixX K C fun _ _ _ v _ => v = .non)) (Dmixed_row : Dfn P w K mg base 7 "mixed_row" ["doors", "shares", "many"] (spMixRow K)) (T : TxtD K mg "chain_mixed" schain_mixed ["house", "mix"]) : DfnX P w K mg base 8 "chain_mixed" ["house", "mix"] (spMixX K C (rRows K)) := by
  refine T.okX scchain_mixed (fun vs H Q E h => ?_) (fun f cdv A outer s H vs Q E hr h => ?_)
  · obtain ⟨a, b, us, zs, hs, mss, rfl, _⟩ := h
    rfl
  obtain ⟨a, b, us, zs, hs, mss, rfl, hS, hA, hT, hB, g, ok⟩ := h
  refine ⟨_, (pss_cons (ps_expr (pe_callX E Drefuse_no_mix hr pass_cx (pa_cons (pv 0) (pa_cons (pv 1) pa_nil))))
      (pss_one (ps_ret (pe_comp ["doors", "shares"] [0] rfl (pi_zip K rfl B.zip (pa_cons (pv 0) (pa_cons (pv 1) pa_nil))) (fun Z nd => (pgT K (n := 2) rfl (pgs_cons (pg_name (i := 0) nd rfl (Or.inl rfl)) (pgs_cons (pg_name (i := 1) nd rfl (Or.inl rfl)) pgs_nil)))) (fun Z => pts_nil) (fun Z => (pe_callD Dmixed_row hr (pa_cons (pv 0) (pa_cons (pv 1) (pa_cons (pe_callB (lenK K) (by rfl) B.len boot_len (pa_cons (pv 2) pa_nil)) pa_nil))))))))), ?_⟩
  have hul := hA.len
  have hzl := hB.len
  have gl := g.len
  refine ⟨_, rfl, _, rfl, a, b, us, zs, hs, mss, rfl, hS, hA, hT, hB, g, ?_⟩
  rcases ok with ⟨ok, q⟩ | ⟨mz, bad, qx⟩
  case inr => exact .inr ⟨mz, bad, fun H1 s1 => qx H1 s1⟩
  have hml := ok.len
  refine .inl ⟨ok, fun v0 H0 s0 e0 => ?_⟩
  subst e0
  refine ⟨_, rfl, _, rfl, a, b, us, zs, rfl, s0.seq hS, s0.seq hT, comp_zip (xs := us) (zs := zs) (fun i ys H' => Same H H' ∧ ys.length ≤ i ∧ Ats K H' (((chainM hs mss).take i).map rowD) ys ∧ ∀ x ∈ ys, NewL H H' x) (by (clear gl; omega)) (small1000 (by (clear hzl; omega))) ⟨s0, Nat.le_refl _, by simp [Ats], by simp⟩ (fun i ys H' _ h => ⟨h.1.seq hS, h.1.seq hT, h.2.1⟩) ?_ ?_⟩
  · rintro i x z ys H1 t hx hz' ⟨s1, hyl, hA1, hN1⟩ ht
    have st := same_new ht (.tup [x, z])
    obtain ⟨ds, hds, had⟩ := hA.gets hx
    obtain ⟨ms, hms, ham⟩ := hB.gets hz'
    obtain ⟨da, dx, rfl, hd1, hd2⟩ := had.doors
    obtain ⟨ma, rfl, hm1⟩ := At_frs ham
    have sh := ok.here i ds ms hds hms
    have dm := List.mem_of_getElem? hds
    have dl := g.lens ds dm
    have s1t := s1.trans st
    have zat : (chainM hs mss)[i]? = some (dueL 0 (mixG hs.length (mixP (ds.zip ms)))) := by unfold chainM; rw [List.getElem?_map, zip_at hds hms]; rfl
    refine ⟨t, _, rfl, sqT_new, rfl, _, _, rfl, _, _, rfl, rfl, keep2, allT ⟨_, rfl, _, rfl, _, rfl, _, _, rfl, .inl (s1t.seq hS), da, ma, hs.length, dx, ds, ms, by rw [hul]; rfl, s1t.seq hd1, hd2.same s1t, hm1.same s1t, sh, dl.2, gl, fun d hd => g.row ds dm d hd, fun D H2 y2 s2 n2 h2 hA2 => ⟨s1t.trans s2, by rw [List.length_append]; exact Nat.succ_le_succ hyl, ?_, fun x hx' => ?_⟩⟩⟩
    · rw [take_snoc zat, List.map_append]
      exact (hA1.same (st.trans s2)).snoc (row_at (SqL.of h2) hA2)
    · rcases List.mem_append.mp hx' with z | z
      · exact (hN1 x z).same (st.trans s2)
      · rw [List.mem_singleton.mp z]
        exact ⟨D, y2, rfl, s1t.free n2, h2⟩
  · rintro ys H1 ⟨s1, hyl, hA1, hN1⟩ D hD
    rw [List.take_of_length_le (by unfold chainM; rw [List.length_map, List.length_zip]; (clear hD hyl gl hzl; omega))] at hA1
    have sD := same_new hD (.lst ys)
    refine q (.ref D) _ (s1.trans sD) ⟨D, ys, rfl, upd_same, fun x hx => ⟨(hN1 x hx).same sD, fun e => ?_⟩, hA1.same sD⟩
    obtain ⟨l, ys', e1, _, h1⟩ := hN1 x hx
    rw [e] at e1
    cases e1
    rw [hD] at h1
    cases h1
noncomputable abbrev scosts_mixed : Stmt := top 30
theorem sccosts_mixed : FnScope ["house", "mix"] ["house", "mix"] (defScope scosts_mixed) := ⟨rfl, rfl, rfl, by decide +kernel, rfl, by decide +kernel, by decide +kernel⟩
theorem ok_costsmixed {C : Addr} (B : Blt mg) (Drefuse_no_mix : DfnX P w K mg base 7 "refuse_no_mix" ["house", "mix"] (spMixX K C fun _ _ _ v _ => v = .non)) (Dmixed_cost : Dfn P w K mg base 5 "mixed_cost" ["doors", "shares"] (spMixCost K)) (T : TxtD K mg "costs_mixed" scosts_mixed ["house", "mix"]) : DfnX P w K mg base 8 "costs_mixed" ["house", "mix"] (spMixX K C fun _ hs mss v H' => At K H' (frsD (costsM hs mss)) v) := by
  refine T.okX sccosts_mixed (fun vs H Q E h => ?_) (fun f cdv A outer s H vs Q E hr h => ?_)
  · obtain ⟨a, b, us, zs, hs, mss, rfl, _⟩ := h
    rfl
  obtain ⟨a, b, us, zs, hs, mss, rfl, hS, hA, hT, hB, g, ok⟩ := h
  refine ⟨_, (pss_cons (ps_expr (pe_callX E Drefuse_no_mix hr pass_cx (pa_cons (pv 0) (pa_cons (pv 1) pa_nil))))
      (pss_one (ps_ret (pe_comp ["doors", "shares"] [] rfl (pi_zip K rfl B.zip (pa_cons (pv 0) (pa_cons (pv 1) pa_nil))) (fun Z nd => (pgT K (n := 2) rfl (pgs_cons (pg_name (i := 0) nd rfl (Or.inl rfl)) (pgs_cons (pg_name (i := 1) nd rfl (Or.inl rfl)) pgs_nil)))) (fun Z => pts_nil) (fun Z => (pe_callD Dmixed_cost hr (pa_cons (pv 0) (pa_cons (pv 1) pa_nil)))))))), ?_⟩
  have hul := hA.len
  have hzl := hB.len
  have gl := g.len
  refine ⟨_, rfl, _, rfl, a, b, us, zs, hs, mss, rfl, hS, hA, hT, hB, g, ?_⟩
  rcases ok with ⟨ok, q⟩ | ⟨mz, bad, qx⟩
  case inr => exact .inr ⟨mz, bad, fun H1 s1 => qx H1 s1⟩
  have hml := ok.len
  refine .inl ⟨ok, fun v0 H0 s0 e0 => ?_⟩
  subst e0
  refine ⟨_, rfl, _, rfl, a, b, us, zs, rfl, s0.seq hS, s0.seq hT, comp_zip (xs := us) (zs := zs) (fun i ys H' => Same H H' ∧ ys.length ≤ i ∧ Ats K H' (((costsM hs mss).take i).map frD) ys) (by (clear gl; omega)) (small1000 (by (clear hzl; omega))) ⟨s0, Nat.le_refl _, by simp [Ats]⟩ (fun i ys H' _ h => ⟨h.1.seq hS, h.1.seq hT, h.2.1⟩) ?_ ?_⟩
  · rintro i x z ys H1 t hx hz' ⟨s1, hyl, hA1⟩ ht
    have st := same_new ht (.tup [x, z])
    obtain ⟨ds, hds, had⟩ := hA.gets hx
    obtain ⟨ms, hms, ham⟩ := hB.gets hz'
    obtain ⟨da, dx, rfl, hd1, hd2⟩ := had.doors
    obtain ⟨ma, rfl, hm1⟩ := At_frs ham
    have sh := ok.here i ds ms hds hms
    have dm := List.mem_of_getElem? hds
    have dl := g.lens ds dm
    have s1t := s1.trans st
    have zat : (costsM hs mss)[i]? = some (psumR (ms.zip (ds.map (·.1)))) := by unfold costsM; rw [List.getElem?_map, zip_at hds hms]; rfl
    refine ⟨t, _, rfl, sqT_new, rfl, _, _, rfl, _, _, rfl, rfl, keep2, allT ⟨_, rfl, _, rfl, da, ma, dx, ds, ms, rfl, s1t.seq hd1, hd2.same s1t, hm1.same s1t, sh, dl.2, fun d hd => (g.cost ds dm d hd).2, fun p2 H2 s2 f2 => ⟨s1t.trans s2, by rw [List.length_append]; exact Nat.succ_le_succ hyl, ?_⟩⟩⟩
    rw [take_snoc zat, List.map_append]
    exact (hA1.same (st.trans s2)).snoc (FracT.at f2)
  · rintro ys H1 ⟨s1, hyl, hA1⟩ D hD
    rw [List.take_of_length_le (by unfold costsM; rw [List.length_map, List.length_zip]; (clear hD hyl gl hzl; omega))] at hA1
    have sD := same_new hD (.lst ys)
    refine q (.ref D) _ (s1.trans sD) ?_
    simp only [frsD, At]
    exact ⟨D, ys, rfl, sqL_new, hA1.same sD⟩
end
end Law
set_option Elab.async false
set_option linter.all false
set_option maxRecDepth 100000
set_option maxHeartbeats 4000000
local macro_rules | `(tactic| walk_at "rd") => `(tactic| repeat (first | refine ⟨_, rfl, ?_⟩ | refine ⟨_, _, rfl, rfl, ?_⟩ | refine ⟨rfl, ?_⟩ | refine ⟨_, _, _, _, rfl, rfl, by assumption, rfl, ?_⟩))
namespace Law
open PySem PySem.Spec PyProof.Rows L2 CH
section
variable {P : Program} {w : World} {K : PySem.W.Frag} {mg : Str → Option Value} {base : Heap}
/-- pairs of fractions as data -/
noncomputable def pairD (p : Rat × Rat) : Dt := .tup [frD p.1, frD p.2]
theorem At_pair {H : Hp} {p : Rat × Rat} {v : V} (h : At K H (pairD p) v) : ∃ t a b, v = .ref t ∧ SqT K H t [.ref a, .ref b] ∧ FracT K H a p.1 ∧ FracT K H b p.2 := by
  simp only [pairD, At, Ats] at h
  obtain ⟨t, xs, e, h1, v1, r1, e1, h2, v2, r2, e2, h3, h4⟩ := h
  obtain ⟨a, rfl, f⟩ := h2.fr
  obtain ⟨b, rfl, g⟩ := h3.fr
  subst e1 e2 h4
  exact ⟨t, a, b, e, h1, f, g⟩
theorem pair_at2 {H : Hp} {t a b : Addr} {q r : Rat} (h : SqT K H t [.ref a, .ref b]) (f : FracT K H a q) (g : FracT K H b r) : At K H (pairD (q, r)) (.ref t) := by
  simp only [pairD, At, Ats]
  exact ⟨t, _, rfl, h, _, _, rfl, FracT.at f, _, _, rfl, FracT.at g, rfl⟩
theorem share_sum {W : Int} (hW : W ≠ 0) : ∀ (is : List Int), rsum (is.map fun x => Rat.divInt x W) = Rat.divInt is.sum W
  | [] => by
    show rsum [] = Rat.divInt 0 W
    rw [Rat.zero_divInt]; rfl
  | x :: is => by rw [List.map_cons, rsum_cons, share_sum hW is, divInt_sum hW, List.sum_cons]
theorem cross_step {t d : Int} {s q r : Rat} (hd : d ≠ 0) (he : Rat.divInt t d = s) : Rat.divInt (t * (((q.den : Nat) : Int) * ((r.den : Nat) : Int)) + q.num * r.num * d) (d * (((q.den : Nat) : Int) * ((r.den : Nat) : Int))) = s + q * r := by
  rw [← he, ← mul_div q r, Rat.divInt_add_divInt _ _ hd (mul_ne (den_ne q) (den_ne r))]

theorem psumR_snoc (ps : List (Rat × Rat)) (p : Rat × Rat) : psumR (ps ++ [p]) = psumR ps + p.1 * p.2 := by
  unfold psumR
  rw [List.map_append, rsum_append]
  show _ + rsum [_] = _
  rw [rsum_one]
noncomputable abbrev sL_sum : Stmt := top 41
theorem scL_sum : FnScope ["_law_products", "_law_top", "_law_bottom", "_law_one", "_law_other", "_law_under"] ["_law_products"] (defScope sL_sum) := ⟨rfl, rfl, rfl, by decide +kernel, rfl, by decide +kernel, by decide +kernel⟩
noncomputable def spSum (K : PySem.W.Frag) : Sp := fun vs H Q _ => ∃ (a : Addr) (zs : List V) (ps : List (Rat × Rat)), vs = [.ref a] ∧ SqL K H a zs ∧ Ats K H (ps.map pairD) zs ∧ (∀ p ∈ ps, Sm 40 p.1 ∧ Sm 40 p.2) ∧ ps.length ≤ 40 ∧
  ∀ (p : Addr) (H' : Hp), Same H H' → FracT K H' p (psumR ps) → Q (.ref p) H'
theorem ok_sum (DLlowest : Dfn P w K mg base 2 "_law_lowest" ["_law_top", "_law_bottom"] (spLowP K)) (T : TxtD K mg "_law_sum" sL_sum ["_law_products"]) : Dfn P w K mg base 3 "_law_sum" ["_law_products"] (spSum K) := by
  refine T.ok scL_sum (fun vs H Q E h => ?_) (fun f cdv A outer s H vs Q E hr h => ?_)
  · obtain ⟨a, b, c, rfl, _⟩ := h
    rfl
  obtain ⟨a, zs, ps, rfl, hS, hA, hz, hl, q⟩ := h
  refine ⟨_, (pss_cons (ps_set (i := 1) scL_sum.nd rfl (Or.inl rfl) pe_int)
      (pss_cons (ps_set (i := 2) scL_sum.nd rfl (Or.inl rfl) pe_int)
      (pss_cons (ps_for PassesOwn.never rfl (piL K (pv 0)) (pgT K (n := 2) rfl (pgs_cons (pg_name (i := 3) scL_sum.nd rfl (Or.inl rfl)) (pgs_cons (pg_name (i := 4) scL_sum.nd rfl (Or.inl rfl)) pgs_nil)))
        (pss_cons (ps_set (i := 5) scL_sum.nd rfl (Or.inl rfl) (pe_op op_mulB (pe_ix (ixT K) (pv 3) pe_int (fun _ _ => rfl)) (pe_ix (ixT K) (pv 4) pe_int (fun _ _ => rfl))))
        (pss_cons (ps_set (i := 1) scL_sum.nd rfl (Or.inl rfl) (pe_op op_add (pe_op op_mulB (pv 1) (pv 5)) (pe_op op_mulB (pe_op op_mulB (pe_ix (ixT K) (pv 3) pe_int (fun _ _ => rfl)) (pe_ix (ixT K) (pv 4) pe_int (fun _ _ => rfl))) (pv 2))))
        (pss_one (ps_set (i := 2) scL_sum.nd rfl (Or.inl rfl) (pe_op op_mulB (pv 2) (pv 5)))))))
      (pss_one (ps_ret (pe_callD DLlowest hr (pa_cons (pv 1) (pa_cons (pv 2) pa_nil)))))))), ?_⟩
  have hlen := hA.len
  refine ⟨_, rfl, a, rfl, ⟨_, hS⟩, for_list (xs := zs) (fun i σ H' => H' = H ∧ i ≤ ps.length ∧ ∃ (t d : Int) (o1 o2 o3 : Option V), σ = [some (.ref a), some (.int t), some (.int d), o1, o2, o3] ∧ 0 < d ∧ Rat.divInt t d = psumR (ps.take i) ∧ bits t ≤ 81 * i + 1 ∧ bits d ≤ 81 * i + 1) ⟨rfl, Nat.zero_le _, 0, 1, _, _, _, rfl, by decide, rfl, by decide, by decide⟩ ?_ ?_ ?_⟩
  · rintro i σ H' _ ⟨rfl, _⟩; exact hS
  · rintro i x σ H' hx ⟨rfl, hi, t, d, o1, o2, o3, rfl, hd, he, bt, bd⟩
    obtain ⟨p, hp, ha⟩ := hA.gets hx
    have hil : i < ps.length := (List.getElem?_eq_some_iff.mp hp).1
    obtain ⟨tp, pa, pb, rfl, ht, fa, fb⟩ := At_pair ha
    obtain ⟨z1, z2⟩ := hz p (List.mem_of_getElem? hp)
    have bu := CH.bits_mul z1.den z2.den
    have bn := CH.bits_mul z1.num z2.num
    refine ⟨tp, _, rfl, ht, rfl, _, _, rfl, _, _, rfl, rfl, ?_⟩
    refine ⟨_, rfl, pa, _, _, _, rfl, rfl, fa, at1, _, rfl, pb, _, _, _, rfl, rfl, fb, at1, _, _, rfl, rfl, mulOk z1.den z2.den (by decide), ?_⟩
    refine ⟨_, rfl, _, rfl, _, _, rfl, rfl, mulOk bt bu (by (clear bn bu hx hp bd bt he hd hi; omega)), ?_⟩
    refine ⟨_, rfl, pa, _, _, _, rfl, rfl, fa, at0, _, rfl, pb, _, _, _, rfl, rfl, fb, at0, _, _, rfl, rfl, mulOk z1.num z2.num (by decide), _, rfl, _, _, rfl, rfl, mulOk bn bd (by (clear bn bu hx hp bd bt he hd hi; omega)), _, _, rfl, rfl, ?_⟩
    refine ⟨_, rfl, _, rfl, _, _, rfl, rfl, mulOk bd bu (by (clear bn bu hx hp bd bt he hd hi; omega)), ?_⟩
    refine ⟨rfl, hil, _, _, _, _, _, rfl, Int.mul_pos hd (Int.mul_pos (den_pos _) (den_pos _)), ?_, ?_, ?_⟩
    · rw [take_snoc hp, psumR_snoc]
      exact cross_step (by (clear bn bu hx hil hp bd bt he hi hlen hl; omega)) he
    · exact bits_mono (CH.bits_add (CH.bits_mul bt bu) (CH.bits_mul bn bd)) (by (clear bn bu hx hil hp bd bt he hd hi hlen hl; omega))
    · exact bits_mono (CH.bits_mul bd bu) (by (clear bn bu hx hil hp bd bt he hd hi hlen hl; omega))
  · rintro σ H' ⟨rfl, hi, t, d, o1, o2, o3, rfl, hd, he, bt, bd⟩
    rw [hlen, List.take_length] at he
    refine ⟨_, rfl, _, rfl, t, d, rfl, hd, bits_mono bd (by (clear bd bt he hd hi; omega)), fun p H1 s1 f1 => q p H1 s1 ?_⟩
    rw [← he]; exact f1
theorem int_get {ks : List Int} {i : Nat} {x : V} (h : (ks.map V.int)[i]? = some x) : ∃ k, ks[i]? = some k ∧ x = .int k := by
  rw [List.getElem?_map] at h
  cases e : ks[i]? with
  | none => rw [e] at h; cases h
  | some k => rw [e] at h; exact ⟨k, rfl, by simpa using h.symm⟩
noncomputable abbrev sL_main : Stmt := top 37
theorem scL_main : FnScope ["_law_script", "_law_house_here", "_law_room"] ["_law_script", "_law_house_here", "_law_room"] (defScope sL_main) := ⟨rfl, rfl, rfl, by decide +kernel, rfl, by decide +kernel, by decide +kernel⟩
/-- the main door of a room -/
noncomputable def mainK (ns : List Int) (n : Nat) (r : Int) : Int := ns.getD (2 + r % 8).toNat 0 / (1 + r / 8) % (n : Int)
theorem mainK_in {ns : List Int} {n : Nat} {r : Int} (h : 0 < n) : 0 ≤ mainK ns n r ∧ mainK ns n r < (n : Int) := ⟨Int.emod_nonneg _ (by omega), Int.emod_lt_of_pos _ (by omega)⟩
/-- each room's main door has a share -/
noncomputable def MainOk (ns : List Int) (hs : List (List Door)) (mss : List (List Rat)) : Prop := ∀ (j : Nat) (ds : List Door) (ms : List Rat), hs[j]? = some ds → mss[j]? = some ms → ∃ q, ms[(mainK ns ds.length (j : Int)).toNat]? = some q ∧ 0 < q
noncomputable def spMain (K : PySem.W.Frag) : Sp := fun vs H Q _ => ∃ (a h : Addr) (ns : List Int) (us : List V) (hs : List (List Door)) (r : Int), vs = [.ref a, .ref h, .int r] ∧ SqL K H a (ns.map V.int) ∧ SqL K H h us ∧ Ats K H (hs.map doorsD) us ∧ GoodHouse hs ∧ 0 ≤ r ∧ r < (hs.length : Int) ∧
  ∀ (ds : List Door), hs[r.toNat]? = some ds → Q (.int (mainK ns ds.length r)) H
theorem ok_main (B : Blt mg) (DLcell_at : Dfn P w K mg base 1 "_law_cell_at" ["_law_script", "_law_k"] (spCell K)) (T : TxtD K mg "_law_main" sL_main ["_law_script", "_law_house_here", "_law_room"]) : Dfn P w K mg base 2 "_law_main" ["_law_script", "_law_house_here", "_law_room"] (spMain K) := by
  refine T.ok scL_main (fun vs H Q E h => ?_) (fun f cdv A outer s H vs Q E hr h => ?_)
  · obtain ⟨a, h, ns, us, hs, r, rfl, _⟩ := h
    rfl
  obtain ⟨a, h, ns, us, hs, r, rfl, hS, hU, hA, g, r0, r1, q⟩ := h
  refine ⟨_, (pss_one (ps_ret (pe_op op_mod (pe_op op_fdivP (pe_callD DLcell_at hr (pa_cons (pv 0) (pa_cons (pe_op op_add pe_int (pe_op op_mod (pv 2) pe_int)) pa_nil))) (pe_op op_add pe_int (pe_op op_fdivP (pv 2) pe_int))) (pe_callB (lenK K) (by rfl) B.len boot_len (pa_cons (pe_ix (ixL K) (pv 1) (pv 2) (fun _ _ => rfl)) pa_nil))))), ?_⟩
  have gl := g.len
  have m0 := Int.emod_nonneg r (show (8 : Int) ≠ 0 by decide)
  have d0 : 0 ≤ r / 8 := Int.ediv_nonneg r0 (by decide)
  have d1 : r / 8 ≤ r := Int.ediv_le_self _ r0
  obtain ⟨ds, v, e1, e2, had⟩ := hA.item r0 r1
  obtain ⟨da, dx, rfl, hd1, hd2⟩ := had.doors
  have hdl := hd2.len
  have dl := g.lens ds (List.mem_of_getElem? e1)
  refine ⟨_, rfl, _, rfl, _, _, rfl, rfl, (by decide : (0 : Int) < 8), _, _, rfl, rfl, a, ns, _, rfl, hS, by (clear dl hdl e2 e1 d1 d0 gl r1 r0; omega), ?_⟩
  refine ⟨_, rfl, _, _, rfl, rfl, ⟨by decide, by decide⟩, _, _, rfl, rfl, _, _, rfl, rfl, ⟨by show 0 < 1 + r / 8; (clear dl hdl e2 e1 d1 m0 gl r1 r0; omega), bits_mono (bits_of_lt (m := 10) (by (clear dl hdl e2 e1 d1 m0 gl r1 r0; omega)) (by (clear dl hdl e2 e1 d1 d0 r0; omega))) (by decide)⟩, ?_⟩
  refine ⟨_, rfl, _, rfl, h, us, _, _, rfl, rfl, hU, e2, _, _, rfl, .inl hd1, _, _, rfl, rfl, (by show (0 : Int) < (dx.length : Int); (clear e2 e1 d1 d0 m0 gl r1 r0; omega)), ?_⟩
  have q := q ds e1
  unfold mainK at q
  rw [← hdl] at q
  exact q
noncomputable abbrev sL_mix : Stmt := top 38
theorem scL_mix : FnScope ["_law_script", "_law_house_here", "_law_most", "_law_mix_here", "_law_room", "_law_weights", "_law_door", "_law_cell", "_law_main_here"] ["_law_script", "_law_house_here"] (defScope sL_mix) := ⟨rfl, rfl, rfl, by decide +kernel, rfl, by decide +kernel, by decide +kernel⟩
theorem three_pick {x y z : V} (c : Int) : ∃ v, atI [x, y, z] (c % 3) = some v ∧ (v = x ∨ v = y ∨ v = z) := by
  have h0 := Int.emod_nonneg c (show (3 : Int) ≠ 0 by decide)
  have h1 := Int.emod_lt_of_pos c (show (0 : Int) < 3 by decide)
  rcases (by (clear h1; omega) : c % 3 = 0 ∨ c % 3 = 1 ∨ c % 3 = 2) with e | e | e
  · rw [e]; exact ⟨x, rfl, .inl rfl⟩
  · rw [e]; exact ⟨y, rfl, .inr (.inl rfl)⟩
  · rw [e]; exact ⟨z, rfl, .inr (.inr rfl)⟩
theorem Ats_frRem {H : Hp} {ls : List Addr} (hl : ∀ l ∈ ls, ∃ xs, H l = some (.lst xs)) : ∀ {qs : List Rat} {vs : List V}, Ats K H (qs.map frD) vs → Ats K (remL H ls) (qs.map frD) vs
  | [], vs, h => by simpa [Ats] using h
  | q :: qs, vs, h => by
    simp only [List.map_cons, Ats] at h ⊢
    obtain ⟨v, r, e, h1, h2⟩ := h
    obtain ⟨p, rfl, f⟩ := h1.fr
    exact ⟨_, r, e, FracT.at (SqT.rem hl f), Ats_frRem hl h2⟩
noncomputable def spMix (K : PySem.W.Frag) : Sp := fun vs H Q _ => ∃ (a h : Addr) (ns : List Int) (us : List V) (hs : List (List Door)), vs = [.ref a, .ref h] ∧ SqL K H a (ns.map V.int) ∧ SqL K H h us ∧ Ats K H (hs.map doorsD) us ∧ GoodHouse hs ∧
  ∀ (p : Addr) (H' : Hp) (vs' : List V) (mss : List (List Rat)), Same H H' → SqL K H' p vs' → Ats K H' (mss.map frsD) vs' → MixOk hs mss → MainOk ns hs mss → Q (.ref p) H'
theorem ok_mix (B : Blt mg) (DLcell_at : Dfn P w K mg base 1 "_law_cell_at" ["_law_script", "_law_k"] (spCell K)) (DLlowest : Dfn P w K mg base 2 "_law_lowest" ["_law_top", "_law_bottom"] (spLowP K)) (DLmain : Dfn P w K mg base 2 "_law_main" ["_law_script", "_law_house_here", "_law_room"] (spMain K)) (T : TxtD K mg "_law_mix" sL_mix ["_law_script", "_law_house_here"]) : Dfn P w K mg base 3 "_law_mix" ["_law_script", "_law_house_here"] (spMix K) := by
  refine T.ok scL_mix (fun vs H Q E h => ?_) (fun f cdv A outer s H vs Q E hr h => ?_)
  · obtain ⟨a, h, ns, us, hs, rfl, _⟩ := h
    rfl
  obtain ⟨a, h, ns, us, hs, rfl, hS, hU, hA, g, q⟩ := h
  refine ⟨_, (pss_cons (ps_set (i := 2) scL_mix.nd rfl (Or.inl rfl) (pe_ix (ixL K) (pe_lst (pa_cons pe_int (pa_cons pe_int (pa_cons pe_int pa_nil)))) (pe_op op_mod (pe_callD DLcell_at hr (pa_cons (pv 0) (pa_cons pe_int pa_nil))) pe_int) (fun _ _ => rfl)))
      (pss_cons (ps_set (i := 3) scL_mix.nd rfl (Or.inl rfl) (pe_lst pa_nil))
      (pss_cons (ps_for PassesOwn.never rfl (pi_range1 rfl B.range (pa_cons (pe_callB (lenK K) (by rfl) B.len boot_len (pa_cons (pv 1) pa_nil)) pa_nil)) (pg_name (i := 4) scL_mix.nd rfl (Or.inl rfl))
        (pss_cons (ps_set (i := 5) scL_mix.nd rfl (Or.inr rfl) (pe_lst pa_nil))
        (pss_cons (ps_for PassesOwn.never rfl (pi_range1 rfl B.range (pa_cons (pe_callB (lenK K) (by rfl) B.len boot_len (pa_cons (pe_ix (ixL K) (pv 1) (pv 4) (fun _ _ => rfl)) pa_nil)) pa_nil)) (pg_name (i := 6) scL_mix.nd rfl (Or.inl rfl))
          (pss_cons (ps_set (i := 7) scL_mix.nd rfl (Or.inl rfl) (pe_op op_add (pe_callD DLcell_at hr (pa_cons (pv 0) (pa_cons (pe_op op_add pe_int (pe_op op_mod (pe_op op_mulB (pe_op op_add (pe_op op_mulB pe_int (pv 4)) (pv 6)) pe_int) pe_int)) pa_nil))) (pe_op op_mulB pe_int (pv 4))))
          (pss_one (ps_expr (pe_bm PySem.F.plainAttrs_list PySem.F.slot_list_append PySem.F.type_list_append mt_append (pv 5) (pa_cons (pe_op op_mod (pe_op op_mod (pe_op op_mulB (pv 7) pe_int) pe_int) (pv 2)) pa_nil))))))
        (pss_cons (ps_set (i := 8) scL_mix.nd rfl (Or.inl rfl) (pe_callD DLmain hr (pa_cons (pv 0) (pa_cons (pv 1) (pa_cons (pv 4) pa_nil)))))
        (pss_cons (ps_asg (pe_op op_add (pe_ix (ixL K) (pv 5) (pv 8) (fun _ _ => rfl)) pe_int) (pg_sub (pv 5) (pv 8) set_list))
        (pss_one (ps_expr (pe_bm PySem.F.plainAttrs_list PySem.F.slot_list_append PySem.F.type_list_append mt_append (pv 3) (pa_cons (pe_comp ["_law_weight"] [5] rfl (piL K (pv 5)) (fun Z nd => (pg_name (i := 0) nd rfl (Or.inl rfl))) (fun Z => pts_nil) (fun Z => (pe_callD DLlowest hr (pa_cons (pv 0) (pa_cons (pe_callB (call_sum K rfl) (by rfl) B.sum boot_sum (pa_cons (pv 1) pa_nil)) pa_nil))))) pa_nil)))))))))
      (pss_one (ps_ret (pv 3)))))), ?_⟩
  have gl := g.len
  have hul := hA.len
  refine ⟨small (by show 3 ≤ 1000; decide), fun l0 hl0 => ?_⟩
  have s0 := same_new hl0 (.lst [.int 6, .int 6, .int 99999989])
  obtain ⟨vm, hvm, hvo⟩ := three_pick (x := .int 6) (y := .int 6) (z := .int 99999989) (ns.getD (10 : Int).toNat 0)
  obtain ⟨most, rfl, M0, M1⟩ : ∃ m : Int, vm = .int m ∧ 1 ≤ m ∧ m ≤ 99999989 := by
    rcases hvo with e | e | e
    · exact ⟨6, e, by decide, by decide⟩
    · exact ⟨6, e, by decide, by decide⟩
    · exact ⟨_, e, by decide, by decide⟩
  refine ⟨_, rfl, a, ns, _, rfl, s0.seq hS, by decide, _, _, rfl, rfl, (by decide : (0 : Int) < 3), l0, _, _, _, rfl, rfl, sqL_new, hvm, ?_⟩
  refine ⟨small (by decide), fun M hM => ?_⟩
  have sM := same_new hM (.lst [])
  have s0M := s0.trans sM
  have hMf : H M = none := s0.free hM
  refine ⟨_, rfl, _, _, rfl, .inl (s0M.seq hU), _, rfl, by (clear hMf hM M1 M0 hvo hvm hl0; omega), by (clear hMf hM M1 M0 hvo hvm hl0; omega), for_range (fun i σ H' => ∃ (o4 o5 o6 o7 o8 : Option V) (vs' : List V) (mss : List (List Rat)), σ = [some (.ref a), some (.ref h), some (.int most), some (.ref M), o4, o5, o6, o7, o8] ∧ Same H H' ∧ H' M = some (.lst vs') ∧ Ats K (remL H' [M]) (mss.map frsD) vs' ∧ mss.length = i ∧ MainOk ns hs mss ∧ ∀ (j : Nat) (ds : List Door) (ms : List Rat), hs[j]? = some ds → mss[j]? = some ms → ShOk ds.length ms) ?_ ?_ ?_⟩
  · exact ⟨_, _, _, _, _, [], [], rfl, s0M, upd_same, by simp [Ats], rfl, (fun j ds ms _ e => by simp at e), fun j ds ms _ e => by simp at e⟩
  · rintro i σ H1 hi ⟨o4, o5, o6, o7, o8, vs', mss, rfl, s1, hM1, hA1, hml, hmn, hok⟩
    have hih : i < hs.length := by rw [← hul]; simpa using hi
    have hds := List.getElem?_eq_getElem hih
    generalize hs[i] = ds at hds
    have dl := g.lens ds (List.mem_of_getElem? hds)
    obtain ⟨ds', v, e1, e2, had⟩ := hA.item (k := 0 + (i : Int)) (by (clear dl hds hih hM1 hi hMf hM M1 M0 hvo hvm hl0 hul gl; omega)) (by (clear dl hds hM1 hi hMf hM M1 M0 hvo hvm hl0 gl; omega))
    have ei : (0 + (i : Int)).toNat = i := by (clear e2 e1 dl hds hih hM1 hi hMf hM M1 M0 hvo hvm hl0 hul gl; omega)
    rw [ei, hds] at e1
    cases e1
    obtain ⟨da, dx, rfl, hd1, hd2⟩ := had.doors
    have hdl := hd2.len
    refine ⟨small (by decide), fun W hW => ?_⟩
    have sW := same_new hW (.lst [])
    have hWM : W ≠ M := fun e => by subst e; rw [hM1] at hW; cases hW
    refine ⟨_, rfl, _, rfl, h, us, _, _, rfl, rfl, (s1.trans sW).seq hU, e2, _, _, rfl, .inl ((s1.trans sW).seq hd1), _, rfl, by (clear hWM hW e2 ei hds hih hml hM1 hi hMf hM M1 M0 hvo hvm hl0 hul gl; omega), by (clear hWM hW e2 ei hds hih hml hM1 hi hMf hM M1 M0 hvo hvm hl0 hul gl; omega), for_range (fun j σ H' => ∃ (o6 o7 : Option V) (ws : List Int), σ = [some (.ref a), some (.ref h), some (.int most), some (.ref M), some (.int (0 + (i : Int))), some (.ref W), o6, o7, o8] ∧ Same H1 H' ∧ H' W = some (.lst (ws.map V.int)) ∧ ws.length = j ∧ ∀ x ∈ ws, 0 ≤ x ∧ x ≤ 100000000) ?_ ?_ ?_⟩
    · exact ⟨_, _, [], rfl, sW, upd_same, rfl, by simp⟩
    · rintro j σ H2 hj ⟨o6, o7, ws, rfl, s2, hW2, hwl, hwx⟩
      have c0 := Int.emod_nonneg ((4 * (0 + (i : Int)) + (0 + (j : Int))) * 3) (show (48 : Int) ≠ 0 by decide)
      refine ⟨_, rfl, _, rfl, _, _, rfl, rfl, .of_left (by decide), _, rfl, _, _, rfl, rfl, _, _, rfl, rfl, .of_right (by decide), _, _, rfl, rfl, (by decide : (0 : Int) < 48), _, _, rfl, rfl, a, ns, _, rfl, (s1.trans s2).seq hS, by (clear hW2 hj hWM hW hdl e2 dl hds hih hM1 hi hMf hM M1 M0 hvo hvm hl0 hul gl; omega), _, rfl, _, _, rfl, rfl, .of_left (by decide), _, _, rfl, rfl, ?_⟩
      refine ⟨_, rfl, .inl ⟨rfl, _, SqL.of hW2⟩, _, rfl, _, _, rfl, rfl, .of_right (by decide), _, _, rfl, rfl, (by decide : (0 : Int) < 1000000007), _, rfl, _, _, rfl, rfl, (by show 0 < most; (clear c0 hwl hW2 hj hWM hW hdl e2 ei dl hds hih hml hM1 hi hMf hM hvo hvm hl0 hul gl; omega)), ?_⟩
      refine ⟨W, _, _, rfl, rfl, hW2, small1000 (by rw [List.length_map]; (clear c0 hW2 hWM hW e2 ei hds hih hml hM1 hi hMf hM M1 M0 hvo hvm hl0 hul gl; omega)), ?_⟩
      refine ⟨_, _, ws ++ [(ns.getD (15 + (4 * (0 + (i : Int)) + (0 + (j : Int))) * 3 % 48).toNat 0 + 7 * (0 + (i : Int))) * 69621 % 1000000007 % most], rfl, same_upd s2 hW, by rw [List.map_append]; exact upd_same, len1 hwl, fun x hx => ?_⟩
      rcases List.mem_append.mp hx with z | z
      · exact hwx x z
      · rw [List.mem_singleton.mp z]
        have x0 := Int.emod_nonneg ((ns.getD (15 + (4 * (0 + (i : Int)) + (0 + (j : Int))) * 3 % 48).toNat 0 + 7 * (0 + (i : Int))) * 69621 % 1000000007) (show most ≠ 0 by (clear c0 hwl hW2 hj hWM hW hdl e2 ei dl hds hih hml hM1 hi hMf hM hvo hvm hl0 hul gl; omega))
        have x1 := Int.emod_lt_of_pos ((ns.getD (15 + (4 * (0 + (i : Int)) + (0 + (j : Int))) * 3 % 48).toNat 0 + 7 * (0 + (i : Int))) * 69621 % 1000000007) (show 0 < most by (clear x0 c0 hwl hW2 hj hWM hW hdl e2 ei dl hds hih hml hM1 hi hMf hM hvo hvm hl0 hul gl; omega))
        exact ⟨x0, by (clear x0 c0 hwl hW2 hj hWM hW hdl e2 ei dl hds hih hml hM1 hi hMf hM hvo hvm hl0 hul gl; omega)⟩
    · rintro σ H2 ⟨o6, o7, ws, rfl, s2, hW2, hwl, hwx⟩
      have hwl' : ws.length = ds.length := by rw [hwl, ← hdl]; simp
      refine ⟨_, rfl, _, rfl, _, rfl, a, h, ns, us, hs, 0 + (i : Int), rfl, (s1.trans s2).seq hS, (s1.trans s2).seq hU, hA.same (s1.trans s2), g, by (clear hwl' hwl hW2 hWM hW hdl e2 dl hds hih hM1 hi hMf hM M1 M0 hvo hvm hl0 hul gl; omega), by (clear hwl' hwl hW2 hWM hW hdl e2 dl hds hM1 hi hMf hM M1 M0 hvo hvm hl0 gl; omega), fun ds2 ek => ?_⟩
      rw [ei, hds] at ek
      cases ek
      obtain ⟨k0, k1⟩ := mainK_in (ns := ns) (r := 0 + (i : Int)) dl.1
      have z0 : (0 : Int) + (i : Int) = (i : Int) := by (clear k1 k0 hwl' hwl hW2 hWM hW hdl e2 ei dl hds hih hml hM1 hi hMf hM M1 M0 hvo hvm hl0 hul gl; omega)
      generalize hk : mainK ns ds.length (0 + (i : Int)) = k at k0 k1
      rw [z0] at hk
      have kl : k.toNat < ws.length := by (clear hk z0 hW2 hWM hW e2 ei dl hds hih hml hM1 hi hMf hM M1 M0 hvo hvm hl0 hul gl; omega)
      have hat := at_int (ns := ws) k0 (by (clear kl k0 hk z0 hW2 hWM hW e2 ei dl hds hih hml hM1 hi hMf hM M1 M0 hvo hvm hl0 hul gl; omega))
      refine ⟨_, rfl, _, rfl, W, _, _, _, rfl, rfl, SqL.of hW2, hat, _, _, rfl, rfl, _, rfl, _, rfl, W, _, _, _, rfl, rfl, hW2, by rw [List.length_map]; exact ixN_pos k0 (by (clear hat kl k0 hk z0 hW2 hWM hW e2 ei dl hds hih hml hM1 hi hMf hM M1 M0 hvo hvm hl0 hul gl; omega)), ?_⟩
      rw [← List.map_set]
      have hx0 := hwx _ (getD_mem kl)
      have hws2 : ∀ x ∈ ws.set k.toNat (ws.getD k.toNat 0 + 1), 0 ≤ x ∧ x ≤ 200000000 := fun x hx => by
        rcases List.mem_or_eq_of_mem_set hx with z | z
        · have := hwx x z; (clear hx0 hat kl k1 k0 hk z0 hwl' hwl hW2 hWM hW hdl e2 ei dl hds hih hml hM1 hi hMf hM M1 M0 hvo hvm hl0 hul gl; omega)
        · rw [z]; (clear hat kl k1 k0 hk z0 hwl' hwl hW2 hWM hW hdl e2 ei dl hds hih hml hM1 hi hMf hM M1 M0 hvo hvm hl0 hul gl; omega)
      have hsum2 : 1 ≤ (ws.set k.toNat (ws.getD k.toNat 0 + 1)).sum := by
        rw [sum_set kl]
        have := (isum hwx).1
        (clear hx0 hat kl k1 k0 hk z0 hwl' hwl hW2 hWM hW hdl e2 ei dl hds hih hml hM1 hi hMf hM M1 M0 hvo hvm hl0 hul gl; omega)
      have hlen2 : (ws.set k.toNat (ws.getD k.toNat 0 + 1)).length = ds.length := by rw [List.length_set]; exact hwl'
      have hk1 : ∃ y, (ws.set k.toNat (ws.getD k.toNat 0 + 1))[k.toNat]? = some y ∧ 0 < y := ⟨_, List.getElem?_set_self kl, by (clear hlen2 hsum2 hat kl k1 k0 hk z0 hwl' hwl hW2 hWM hW hdl e2 ei dl hds hih hml hM1 hi hMf hM M1 M0 hvo hvm hl0 hul gl; omega)⟩
      generalize ws.set k.toNat (ws.getD k.toNat 0 + 1) = is at hws2 hsum2 hlen2 hk1
      have hsm := isum hws2
      have hsb : is.sum ≤ 800000000 := by
        have : (is.length : Int) * 200000000 ≤ 4 * 200000000 := Int.mul_le_mul_of_nonneg_right (by (clear hsm hsum2 hx0 hat kl k1 k0 hk z0 hW2 hWM hW e2 ei hds hih hml hM1 hi hMf hM M1 M0 hvo hvm hl0 hul gl; omega)) (by decide)
        (clear this hsum2 hx0 hat kl k1 k0 hk z0 hW2 hWM hW e2 ei hds hih hml hM1 hi hMf hM M1 M0 hvo hvm hl0 hul gl; omega)
      have bW : bits is.sum ≤ 33 := bits_of_lt (by (clear hsm hlen2 hx0 hat kl k1 k0 hk z0 hwl' hwl hW2 hWM hW hdl e2 ei dl hds hih hml hM1 hi hMf hM M1 M0 hvo hvm hl0 hul gl; omega)) (by (clear hsm hlen2 hx0 hat kl k1 k0 hk z0 hwl' hwl hW2 hWM hW hdl e2 ei dl hds hih hml hM1 hi hMf hM M1 M0 hvo hvm hl0 hul gl; omega))
      have s3 : Same H1 (upd H2 W (.lst (is.map V.int))) := same_upd s2 hW
      have hW3 : (upd H2 W (.lst (is.map V.int))) W = some (.lst (is.map V.int)) := upd_same
      generalize upd H2 W (.lst (is.map V.int)) = H3 at s3 hW3
      have hM3 := s3 _ _ hM1
      refine ⟨_, rfl, .inl ⟨rfl, _, SqL.of hM3⟩, _, rfl, W, rfl, ⟨_, SqL.of hW3⟩, comp_list (xs := is.map V.int) (fun j ys H' => Same H3 H' ∧ ys.length ≤ j ∧ Ats K H' (((is.map fun x => Rat.divInt x is.sum).take j).map frD) ys) (by rw [List.length_map]; exact small1000 (by (clear hM3 hW3 bW hsb hsm hsum2 hx0 hat kl k1 k0 hk z0 hW2 hWM hW e2 ei hds hih hml hM1 hi hMf hM M1 M0 hvo hvm hl0 hul gl; omega))) ⟨Same.refl _, Nat.le_refl _, by simp [Ats]⟩ (fun j ys H' _ h => ⟨h.1.seq (SqL.of hW3), h.2.1⟩) ?_ ?_⟩
      · rintro j x ys H4 hx ⟨s4, hyl, hA4⟩
        obtain ⟨wj, hwj, rfl⟩ := int_get hx
        have e : (is.map fun x => Rat.divInt x is.sum)[j]? = some (Rat.divInt wj is.sum) := by rw [List.getElem?_map, hwj]; rfl
        refine ⟨keep1, allT ⟨_, rfl, _, rfl, W, is, rfl, s4.seq (SqL.of hW3), wj, is.sum, rfl, by (clear e hx hwj hyl hM3 hW3 bW hsm hlen2 hx0 hat kl k1 k0 hk z0 hwl' hwl hW2 hWM hW hdl e2 ei dl hds hih hml hM1 hi hMf hM M1 M0 hvo hvm hl0 hul gl; omega), bits_mono bW (by decide), fun p5 H5 s5 f5 => ⟨s4.trans s5, by rw [List.length_append]; exact Nat.succ_le_succ hyl, ?_⟩⟩⟩
        rw [take_snoc e, List.map_append]
        exact (hA4.same s5).snoc (FracT.at f5)
      · rintro ys H4 ⟨s4, hyl, hA4⟩ D hD
        rw [List.length_map] at hA4
        rw [List.take_of_length_le (by rw [List.length_map]; exact Nat.le_refl _)] at hA4
        have sD := same_new hD (.lst ys)
        have s14 := (s3.trans s4).trans sD
        have hM5 := s14 _ _ hM1
        have hDM : D ≠ M := fun e => by subst e; rw [(s3.trans s4) _ _ hM1] at hD; cases hD
        have lsts : ∀ b ∈ [M], ∃ xs, (upd H4 D (.lst ys)) b = some (.lst xs) := fun b hb => by rw [List.mem_singleton.mp hb]; exact ⟨_, hM5⟩
        have hvl := hA1.len
        refine ⟨M, vs', _, rfl, rfl, hM5, small1000 (by (clear hDM hM5 hD hyl hM3 hW3 bW hsb hsm hlen2 hsum2 hx0 hat kl k1 k0 hk z0 hwl' hwl hW2 hWM hW hdl e2 dl hds hM1 hi hMf hM M1 M0 hvo hvm hl0; omega)), ?_⟩
        refine ⟨_, _, _, _, _, _, mss ++ [is.map fun x => Rat.divInt x is.sum], rfl, same_upd (s1.trans s14) hMf, upd_same, ?_, len1 hml, fun j ds3 ms3 e3 e4 => ?_, fun j ds3 ms3 e3 e4 => ?_⟩
        · rw [rem_upd (by simp), List.map_append]
          refine (hA1.same (same_rem s14)).snoc ?_
          simp only [frsD, At]
          exact ⟨D, ys, rfl, SqL.outRem (by simpa using hDM) sqL_new, Ats_frRem lsts (hA4.same sD)⟩
        · by_cases hj : j < mss.length
          · rw [List.getElem?_append_left hj] at e4
            exact hmn j ds3 ms3 e3 e4
          · rw [List.getElem?_append_right (by (clear e4 e3 hDM hM5 hD hyl hM3 hW3 bW hsb hsm hlen2 hsum2 hx0 hat kl k1 k0 hk z0 hwl' hwl hW2 hWM hW hdl e2 dl hds hih hM1 hi hMf hM M1 M0 hvo hvm hl0 hul gl; omega))] at e4
            have hj0 : j = i := by
              have := (List.getElem?_eq_some_iff.mp e4).1
              simp at this; (clear e4 e3 hDM hM5 hD hyl hM3 hW3 bW hsb hsm hlen2 hsum2 hx0 hat kl k1 k0 hk z0 hwl' hwl hW2 hWM hW hdl e2 dl hds hih hM1 hi hMf hM M1 M0 hvo hvm hl0 hul gl; omega)
            subst hj0
            rw [hds] at e3
            cases e3
            rw [hml, Nat.sub_self] at e4
            have e5 : (is.map fun x => Rat.divInt x is.sum) = ms3 := by simpa using e4
            obtain ⟨y, hy, y0⟩ := hk1
            rw [← e5, hk]
            exact ⟨Rat.divInt y is.sum, by rw [List.getElem?_map, hy]; rfl, divInt_pos y0 (by (clear y0 hy e5 hk z0 e2 ei hds hih hml hi hj e4 hvl hDM hM5 hD hyl hM3 hW3 bW hsm hlen2 hx0 hat kl k1 k0 hwl' hwl hW2 hWM hW hdl dl hM1 hMf hM M1 M0 hvo hvm hl0 hul gl; omega))⟩
        · by_cases hj : j < mss.length
          · rw [List.getElem?_append_left hj] at e4
            exact hok j ds3 ms3 e3 e4
          · rw [List.getElem?_append_right (by (clear e4 e3 hDM hM5 hD hyl hM3 hW3 bW hsb hsm hlen2 hsum2 hx0 hat kl k1 k0 hk z0 hwl' hwl hW2 hWM hW hdl e2 dl hds hih hM1 hi hMf hM M1 M0 hvo hvm hl0 hul gl; omega))] at e4
            have hj0 : j = i := by
              have := (List.getElem?_eq_some_iff.mp e4).1
              simp at this; (clear e4 e3 hDM hM5 hD hyl hM3 hW3 bW hsb hsm hlen2 hsum2 hx0 hat kl k1 k0 hk z0 hwl' hwl hW2 hWM hW hdl e2 dl hds hih hM1 hi hMf hM M1 M0 hvo hvm hl0 hul gl; omega)
            subst hj0
            rw [hds] at e3
            cases e3
            rw [hml, Nat.sub_self] at e4
            have e5 : (is.map fun x => Rat.divInt x is.sum) = ms3 := by simpa using e4
            rw [← e5]
            refine ⟨by rw [List.length_map]; exact hlen2, fun r hr' => ?_, fun r hr' => ?_, ?_⟩
            · obtain ⟨x, hx, rfl⟩ := List.mem_map.mp hr'
              exact divInt_nonneg (hws2 x hx).1 (by (clear e5 hk z0 e2 ei hds hih hml hi hj e4 hvl hDM hM5 hD hyl hM3 hW3 bW hsm hlen2 hx0 hat kl k1 k0 hwl' hwl hW2 hWM hW hdl dl hM1 hMf hM M1 M0 hvo hvm hl0 hul gl; omega))
            · obtain ⟨x, hx, rfl⟩ := List.mem_map.mp hr'
              have := hws2 x hx
              exact (Sm.divInt (n := 33) (by (clear this e5 hk z0 e2 ei hds hih hml hi hj e4 hvl hDM hM5 hD hyl hM3 hW3 bW hsm hlen2 hx0 hat kl k1 k0 hwl' hwl hW2 hWM hW hdl dl hM1 hMf hM M1 M0 hvo hvm hl0 hul gl; omega)) (bits_of_lt (by (clear e5 hk z0 e2 ei hds hih hml hi hj e4 hvl hDM hM5 hD hyl hM3 hW3 bW hsb hsm hlen2 hsum2 hx0 hat kl k1 k0 hwl' hwl hW2 hWM hW hdl dl hM1 hMf hM M1 M0 hvo hvm hl0 hul gl; omega)) (by (clear e5 hk z0 e2 ei hds hih hml hi hj e4 hvl hDM hM5 hD hyl hM3 hW3 bW hsb hsm hlen2 hsum2 hx0 hat kl k1 k0 hwl' hwl hW2 hWM hW hdl dl hM1 hMf hM M1 M0 hvo hvm hl0 hul gl; omega))) bW).mono (by decide)
            · rw [share_sum (by (clear e5 hk z0 e2 ei hds hih hml hi hj e4 hvl hDM hM5 hD hyl hM3 hW3 bW hsm hlen2 hx0 hat kl k1 k0 hwl' hwl hW2 hWM hW hdl dl hM1 hMf hM M1 M0 hvo hvm hl0 hul gl; omega))]; exact Rat.divInt_self' (by (clear e5 hk z0 e2 ei hds hih hml hi hj e4 hvl hDM hM5 hD hyl hM3 hW3 bW hsm hlen2 hx0 hat kl k1 k0 hwl' hwl hW2 hWM hW hdl dl hM1 hMf hM M1 M0 hvo hvm hl0 hul gl; omega))
  · rintro σ H1 ⟨o4, o5, o6, o7, o8, vs', mss, rfl, s1, hM1, hA1, hml, hmn, hok⟩
    refine ⟨_, rfl, q M H1 vs' mss s1 (SqL.of hM1) (hA1.same rem_same) ⟨by rw [hml, ← hul]; simp, hok⟩ hmn⟩
end
end Law
set_option Elab.async false
set_option linter.all false
set_option maxRecDepth 100000
set_option maxHeartbeats 4000000
local macro_rules | `(tactic| walk_at "rd") => `(tactic| repeat (first | refine ⟨_, rfl, ?_⟩ | refine ⟨_, _, rfl, rfl, ?_⟩ | refine ⟨rfl, ?_⟩ | refine ⟨_, _, _, _, rfl, rfl, by assumption, rfl, ?_⟩))
namespace Law
open PySem PySem.Spec PyProof.Rows L2 CH
section
variable {P : Program} {w : World} {K : PySem.W.Frag} {mg : Str → Option Value} {base : Heap}
/-- the classes of the refusals: its own, the one above, the seven others -/
structure Refuses (K : PySem.W.Frag) (mg : Str → Option Value) (n n1 n2 n3 n4 n5 n6 n7 : Str) (cE c c1 c2 c3 c4 c5 c6 c7 : Addr) : Prop where
  top : mg "ChanceError" = some (.ref cE)
  own : mg n = some (.ref c)
  o1 : mg n1 = some (.ref c1)
  o2 : mg n2 = some (.ref c2)
  o3 : mg n3 = some (.ref c3)
  o4 : mg n4 = some (.ref c4)
  o5 : mg n5 = some (.ref c5)
  o6 : mg n6 = some (.ref c6)
  o7 : mg n7 = some (.ref c7)
  exc : PySem.W.excIn K c mroVE "ValueError.__new__" = true
  z : ExcK K c
  cat : Catches K c cE
  is : PySem.W.kitOne K (.ref c) (.ref c) = some true
  ve : PySem.W.kitOne K (.ref c) (.type "ValueError") = some true
  no : PySem.W.kitAny K (.ref c) [.ref c1, .ref c2, .ref c3, .ref c4, .ref c5, .ref c6, .ref c7] = some false
theorem vals7 {c1 c2 c3 c4 c5 c6 c7 : Addr} {its : List Value} (h : Vals [.ref c1, .ref c2, .ref c3, .ref c4, .ref c5, .ref c6, .ref c7] its) : its = [.ref c1, .ref c2, .ref c3, .ref c4, .ref c5, .ref c6, .ref c7] := by
  cases h with
  | cons a1 h => cases h with
    | cons a2 h => cases h with
      | cons a3 h => cases h with
        | cons a4 h => cases h with
          | cons a5 h => cases h with
            | cons a6 h => cases h with
              | cons a7 h => cases h with
                | nil => cases a1; cases a2; cases a3; cases a4; cases a5; cases a6; cases a7; rfl
theorem boot_ValueError : bootBuiltins "ValueError" = some (.type "ValueError") := by first | rfl | decide +kernel
noncomputable abbrev sL_refusal : Stmt := top 44
theorem scL_refusal : FnScope ["_law_house_here", "_law_mix_here", "_law_costs", "_law_told", "e", "_law_others"] ["_law_house_here", "_law_mix_here", "_law_costs"] (defScope sL_refusal) := ⟨rfl, rfl, rfl, by decide +kernel, rfl, by decide +kernel, by decide +kernel⟩
/-- what is no mix is refused -/
noncomputable def spRefusal (K : PySem.W.Frag) : Sp := fun vs H Q _ => ∃ (a b : Addr) (x : Bool) (us zs : List V) (hs : List (List Door)) (mss : List (List Rat)), vs = [.ref a, .ref b, .bl x] ∧ SqL K H a us ∧ Ats K H (hs.map doorsD) us ∧ SqL K H b zs ∧ Ats K H (mss.map frsD) zs ∧ GoodHouse hs ∧ MixZ mss ∧ mixB hs mss = false ∧
  ∀ l H', Same H H' → SqL K H' l [.bl true, .bl true, .bl false] → Q (.ref l) H'
theorem ok_refusal {cE c c1 c2 c3 c4 c5 c6 c7 : Addr} {rc rk : Hp → List (List Door) → List (List Rat) → V → Hp → Prop} (B : Blt mg) (R : Refuses K mg "NoRule" "NoAnswer" "NoHouse" "NoName" "NoNumber" "NoRow" "NoText" "NoWord" cE c c1 c2 c3 c4 c5 c6 c7)
    (Dchain_mixed : DfnX P w K mg base 8 "chain_mixed" ["house", "mix"] (spMixX K c rc)) (Dcosts_mixed : DfnX P w K mg base 8 "costs_mixed" ["house", "mix"] (spMixX K c rk)) (T : TxtD K mg "_law_refusal" sL_refusal ["_law_house_here", "_law_mix_here", "_law_costs"]) :
    Dfn P w K mg base 9 "_law_refusal" ["_law_house_here", "_law_mix_here", "_law_costs"] (spRefusal K) := by
  refine T.ok scL_refusal (fun vs H Q E h => ?_) (fun f cdv A outer s H vs Q E hr h => ?_)
  · obtain ⟨a, b, x, us, zs, hs, mss, rfl, _⟩ := h
    rfl
  obtain ⟨a, b, x, us, zs, hs, mss, rfl, hS, hA, hT, hB, g, mz, bad, q⟩ := h
  refine ⟨_, (pss_cons (ps_set (i := 3) scL_refusal.nd rfl (Or.inl rfl) (pe_lst pa_nil))
      (pss_cons (ps_try (E := fun cc _ H' => cc = .ref c ∧ Same H H') (i := 4) (n := "e") scL_refusal.nd rfl rfl rfl rfl R.top (fun C H' h => by obtain ⟨h, _⟩ := h; cases h; exact R.cat)
          (fun ps => pss_one (ps_if (pt_val (pv 2))
            (pss_one (ps_expr (pe_callX _ Dcosts_mixed hr pass_try (pa_cons (pv 0) (pa_cons (pv 1) pa_nil)))))
            (pss_one (ps_expr (pe_callX _ Dchain_mixed hr pass_try (pa_cons (pv 0) (pa_cons (pv 1) pa_nil)))))))
          (fun ea => pss_cons (ps_set (i := 5) scL_refusal.nd rfl (Or.inl rfl) (pe_callB (call_isiE K) (by rfl) B.isinstance boot_isinstance (pa_cons (pv 4) (pa_cons (pe_tup (pa_cons (pe_glob rfl R.o1 (v := .ref c1) rfl) (pa_cons (pe_glob rfl R.o2 (v := .ref c2) rfl) (pa_cons (pe_glob rfl R.o3 (v := .ref c3) rfl) (pa_cons (pe_glob rfl R.o4 (v := .ref c4) rfl) (pa_cons (pe_glob rfl R.o5 (v := .ref c5) rfl) (pa_cons (pe_glob rfl R.o6 (v := .ref c6) rfl) (pa_cons (pe_glob rfl R.o7 (v := .ref c7) rfl) pa_nil)))))))) pa_nil))))
            (pss_one (ps_set (i := 3) scL_refusal.nd rfl (Or.inl rfl) (pe_lst (pa_cons (pe_callB (call_isiE K) (by rfl) B.isinstance boot_isinstance (pa_cons (pv 4) (pa_cons (pe_glob rfl R.own (v := .ref c) rfl) pa_nil))) (pa_cons (pe_callB (call_isiE K) (by rfl) B.isinstance boot_isinstance (pa_cons (pv 4) (pa_cons (pe_ty B.ValueError boot_ValueError) pa_nil))) (pa_cons (pv 5) pa_nil))))))))
      (pss_one (ps_ret (pv 3))))), ?_⟩
  refine ⟨small (by decide), fun l hl => ?_⟩
  have sl := same_new hl (.lst [])
  refine ⟨⟨_, rfl, _, rfl, ite2 (fun _ => ?_) (fun _ => ?_)⟩, ?_⟩
  · exact ⟨_, rfl, _, rfl, a, b, us, zs, hs, mss, rfl, sl.seq hS, hA.same sl, sl.seq hT, hB.same sl, g, .inr ⟨mz, bad, fun H' s' => ⟨rfl, sl.trans s'⟩⟩⟩
  · exact ⟨_, rfl, _, rfl, a, b, us, zs, hs, mss, rfl, sl.seq hS, hA.same sl, sl.seq hT, hB.same sl, g, .inr ⟨mz, bad, fun H' s' => ⟨rfl, sl.trans s'⟩⟩⟩
  rintro ea C σ' H' ⟨hC, s1⟩ hlen hn
  cases hC
  match σ', hlen with
  | [o0, o1, o2, o3, o4, o5], _ =>
    have se := same_new hn (.ext (excφ ea c))
    have he : ∀ {G : Hp}, Same (upd H' ea (.ext (excφ ea c))) G → G ea = some (.ext (excφ ea c)) := fun s => s _ _ upd_same
    refine ⟨_, rfl, small (by show 7 ≤ 1000; decide), fun t ht => ?_⟩
    have st := same_new ht (.tup [.ref c1, .ref c2, .ref c3, .ref c4, .ref c5, .ref c6, .ref c7])
    refine ⟨ea, c, _, false, rfl, he st, R.z, ?_, .inr (.inr ⟨t, _, rfl, upd_same, fun its hv => by rw [vals7 hv]; exact R.no⟩)⟩
    refine ⟨_, rfl, ea, c, _, true, rfl, he st, R.z, ?_, .inl ⟨_, rfl, R.is⟩⟩
    refine ⟨_, rfl, ea, c, _, true, rfl, he st, R.z, ?_, .inr (.inl ⟨_, rfl, R.ve⟩)⟩
    refine ⟨_, rfl, small (by show 3 ≤ 1000; decide), fun l2 hl2 => ?_⟩
    have s2 := same_new hl2 (.lst [.bl true, .bl true, .bl false])
    exact ⟨_, rfl, q l2 _ (((s1.trans se).trans st).trans s2) sqL_new⟩
end
end Law
set_option Elab.async false
set_option linter.all false
set_option maxRecDepth 100000
set_option maxHeartbeats 4000000
local macro_rules | `(tactic| walk_at "rd") => `(tactic| repeat (first | refine ⟨_, rfl, ?_⟩ | refine ⟨_, _, rfl, rfl, ?_⟩ | refine ⟨rfl, ?_⟩ | refine ⟨_, _, _, _, rfl, rfl, by assumption, rfl, ?_⟩))
namespace Law
open PySem PySem.Spec PyProof.Rows L2 CH
section
variable {P : Program} {w : World} {K : PySem.W.Frag} {mg : Str → Option Value} {base : Heap}
noncomputable abbrev sL_cost_due : Stmt := top 43
theorem scL_cost_due : FnScope ["_law_doors", "_law_parts"] ["_law_doors", "_law_parts"] (defScope sL_cost_due) := ⟨rfl, rfl, rfl, by decide +kernel, rfl, by decide +kernel, by decide +kernel⟩
theorem ok_costdue (B : Blt mg) (DLsum : Dfn P w K mg base 3 "_law_sum" ["_law_products"] (spSum K)) (T : TxtD K mg "_law_cost_due" sL_cost_due ["_law_doors", "_law_parts"]) : Dfn P w K mg base 4 "_law_cost_due" ["_law_doors", "_law_parts"] (spMixCost K) := by
  refine T.ok scL_cost_due (fun vs H Q E h => ?_) (fun f cdv A outer s H vs Q E hr h => ?_)
  · obtain ⟨a, b, us, ds, ms, rfl, _⟩ := h
    rfl
  obtain ⟨a, b, us, ds, ms, rfl, hS, hA, ⟨zs, hT, hB⟩, sh, hd4, hc, q⟩ := h
  refine ⟨_, (pss_one (ps_ret (pe_callD DLsum hr (pa_cons (pe_comp ["_law_door", "_law_share"] [] rfl (pi_zip K rfl B.zip (pa_cons (pv 0) (pa_cons (pv 1) pa_nil))) (fun Z nd => (pgT K (n := 2) rfl (pgs_cons (pg_name (i := 0) nd rfl (Or.inl rfl)) (pgs_cons (pg_name (i := 1) nd rfl (Or.inl rfl)) pgs_nil)))) (fun Z => pts_nil) (fun Z => (pe_tup (pa_cons (pv 1) (pa_cons (pe_ix (ixT K) (pv 0) pe_int (fun _ _ => rfl)) pa_nil))))) pa_nil)))), ?_⟩
  have hul := hA.len
  have hzl := hB.len
  have hml := sh.len
  refine ⟨_, rfl, _, rfl, a, b, us, zs, rfl, hS, hT, comp_zip (xs := us) (zs := zs) (fun i ys H' => Same H H' ∧ ys.length ≤ i ∧ Ats K H' (((ms.zip (ds.map (·.1))).take i).map pairD) ys) (by (clear hd4; omega)) (small1000 (by (clear hzl; omega))) ⟨Same.refl _, Nat.le_refl _, by simp [Ats]⟩ (fun i ys H' _ h => ⟨h.1.seq hS, h.1.seq hT, h.2.1⟩) ?_ ?_⟩
  · rintro i x z ys H1 t hx hz' ⟨s1, hyl, hA1⟩ ht
    have st := same_new ht (.tup [x, z])
    obtain ⟨d, hd, had⟩ := hA.gets hx
    obtain ⟨p, cc, ra, rx, rfl, hpt, fcc, hr1, hr2⟩ := had.door
    obtain ⟨m, pm, hm, rfl, fm⟩ := hB.fr hz'
    have zat : (ms.zip (ds.map (·.1)))[i]? = some (m, d.1) := zip_at hm (by rw [List.getElem?_map, hd]; rfl)
    have s1t := s1.trans st
    refine ⟨t, _, rfl, sqT_new, rfl, _, _, rfl, _, _, rfl, rfl, keep2, allT ⟨_, rfl, _, rfl, p, _, _, _, rfl, rfl, s1t.tup hpt, at0, small (by show 2 ≤ 1000; decide), fun t2 ht2 => ?_⟩⟩
    have st2 := same_new ht2 (.tup [.ref pm, .ref cc])
    refine ⟨s1t.trans st2, by rw [List.length_append]; exact Nat.succ_le_succ hyl, ?_⟩
    rw [take_snoc zat, List.map_append]
    exact (hA1.same (st.trans st2)).snoc (pair_at2 sqT_new ((s1t.trans st2).tup fm) ((s1t.trans st2).tup fcc))
  · rintro ys H1 ⟨s1, hyl, hA1⟩ D hD
    rw [List.take_of_length_le (by rw [List.length_zip, List.length_map]; (clear hD hyl hzl hd4; omega))] at hA1
    have sD := same_new hD (.lst ys)
    refine ⟨D, ys, ms.zip (ds.map (·.1)), rfl, sqL_new, hA1.same sD, fun z hz => ?_, by rw [List.length_zip, List.length_map]; (clear hD hyl hzl; omega), fun p2 H2 s2 f2 => q p2 H2 ((s1.trans sD).trans s2) f2⟩
    have hz2 := List.of_mem_zip (show (z.1, z.2) ∈ ms.zip (ds.map (·.1)) from hz)
    obtain ⟨d, hd, e⟩ := List.mem_map.mp hz2.2
    exact ⟨sh.sm z.1 hz2.1, by rw [← e]; exact hc d hd⟩
/-! row -/
theorem dueL_snoc : ∀ {gs : List Rat} {k : Int} {q : Rat}, dueL k (gs ++ [q]) = dueL k gs ++ (if q = 0 then [] else [(k + (gs.length : Int), q)])
  | [], k, q => by
    show (if q = 0 then [] else [(k, q)]) = [] ++ (if q = 0 then [] else [(k + 0, q)])
    rw [Int.add_zero, List.nil_append]
  | g :: gs, k, q => by
    have ih := dueL_snoc (gs := gs) (k := k + 1) (q := q)
    have e : k + ((gs.length + 1 : Nat) : Int) = k + 1 + (gs.length : Int) := by (clear ih; omega)
    show (if g = 0 then dueL (k + 1) (gs ++ [q]) else (k, g) :: dueL (k + 1) (gs ++ [q])) = (if g = 0 then dueL (k + 1) gs else (k, g) :: dueL (k + 1) gs) ++ (if q = 0 then [] else [(k + ((gs.length + 1 : Nat) : Int), q)])
    rw [e, ih]
    split
    · rfl
    · rw [List.cons_append]
theorem pf_pos : ∀ {ps : List Way} {g : Int}, (∀ p ∈ ps, ¬ p.2 < 0) → 0 ≤ pf ps (ind g)
  | [], _, _ => Rat.le_refl
  | p :: ps, g, h => by
    rw [pf_cons]
    have ih := pf_pos (ps := ps) (g := g) fun x hx => h x (List.mem_cons_of_mem _ hx)
    have hp := Rat.not_lt.mp (h p (by simp))
    have hi : (0 : Rat) ≤ ind g p.1 := by
      unfold ind
      split
      · decide
      · exact Rat.le_refl
    have := Rat.mul_nonneg hp hi
    grind
noncomputable def Inj (ls : List Addr) : Prop := ∀ (i j : Nat) (l : Addr), ls[i]? = some l → ls[j]? = some l → i = j
theorem Inj.snoc {ls : List Addr} {l : Addr} (h : Inj ls) (hl : l ∉ ls) : Inj (ls ++ [l]) := fun i j x hi hj => by
  have li := (List.getElem?_eq_some_iff.mp hi).1
  have lj := (List.getElem?_eq_some_iff.mp hj).1
  rw [List.length_append, List.length_singleton] at li lj
  have last : ∀ k, ¬ k < ls.length → (ls ++ [l])[k]? = some x → k < ls.length + 1 → x = l := fun k h1 h2 h3 => by
    rw [List.getElem?_append_right (by (clear h2 lj li hj hi hl; omega)), show k - ls.length = 0 by (clear h2 lj li hj hi hl; omega)] at h2
    simpa using h2.symm
  by_cases ci : i < ls.length
  · rw [List.getElem?_append_left ci] at hi
    by_cases cj : j < ls.length
    · rw [List.getElem?_append_left cj] at hj
      exact h i j x hi hj
    · have := last j cj hj lj
      subst this
      exact absurd (List.mem_of_getElem? hi) hl
  · by_cases cj : j < ls.length
    · rw [List.getElem?_append_left cj] at hj
      have := last i ci hi li
      subst this
      exact absurd (List.mem_of_getElem? hj) hl
    · (clear hj hi hl; omega)
/-- what each room's list has gathered -/
noncomputable def Rooms (K : PySem.W.Frag) (H : Hp) (ls : List Addr) (M : List Way) : Prop := ∀ (r : Nat) (l : Addr), ls[r]? = some l → ∃ vs ps, H l = some (.lst vs) ∧ Ats K (remL H ls) (ps.map pairD) vs ∧ psumR ps = pf M (ind (r : Int)) ∧ ps.length ≤ M.length ∧ ∀ p ∈ ps, Sm 40 p.1 ∧ Sm 40 p.2
theorem Rooms.same {H H2 : Hp} {ls : List Addr} {M : List Way} (R : Rooms K H ls M) (s : Same H H2) : Rooms K H2 ls M := fun r l h => by
  obtain ⟨vs, ps, h1, h2, h3⟩ := R r l h
  exact ⟨vs, ps, s _ _ h1, h2.same (same_rem s), h3⟩
theorem Rooms.put {H : Hp} {ls : List Addr} {M : List Way} {g : Nat} {l t pm c : Addr} {m w' : Rat} {vs : List V} (hn : Inj ls) (R : Rooms K H ls M) (hg : ls[g]? = some l) (hl : H l = some (.lst vs)) (ht : SqT K H t [.ref pm, .ref c]) (fm : FracT K H pm m) (fc : FracT K H c w') (zm : Sm 40 m) (zw : Sm 40 w') : Rooms K (upd H l (.lst (vs ++ [.ref t]))) ls (M ++ [((g : Int), m * w')]) := fun r l' hr => by
  have lsts : ∀ b ∈ ls, ∃ xs, H b = some (.lst xs) := fun b hb => by
    obtain ⟨j, hj⟩ := List.getElem?_of_mem hb
    obtain ⟨v, _, h1, _⟩ := R j b hj
    exact ⟨v, h1⟩
  have lm := List.mem_of_getElem? hg
  rw [rem_upd lm, pf_snoc]
  obtain ⟨vs0, ps, h1, h2, h3, h4, h5⟩ := R r l' hr
  by_cases e : r = g
  · subst e
    rw [hg] at hr
    cases hr
    rw [hl] at h1
    cases h1
    refine ⟨_, ps ++ [(m, w')], upd_same, ?_, ?_, ?_, fun p hp => ?_⟩
    · rw [List.map_append]
      exact h2.snoc (pair_at2 (SqT.rem lsts ht) (SqT.rem lsts fm) (SqT.rem lsts fc))
    · rw [psumR_snoc, h3]
      show _ + m * w' = _ + m * w' * ind (r : Int) (r : Int)
      unfold ind
      rw [if_pos rfl, Rat.mul_one]
    · rw [List.length_append, List.length_append]
      exact Nat.succ_le_succ h4
    · rcases List.mem_append.mp hp with z | z
      · exact h5 p z
      · rw [List.mem_singleton.mp z]; exact ⟨zm, zw⟩
  · have hne : l' ≠ l := fun z => by subst z; exact e (hn r g _ hr hg)
    refine ⟨vs0, ps, by rw [upd_ne hne]; exact h1, h2, ?_, by rw [List.length_append]; (clear hne e h3 h1 hr hl hg; omega), h5⟩
    rw [h3]
    show _ = _ + m * w' * ind (r : Int) (g : Int)
    unfold ind
    rw [if_neg (by (clear hne h4 h3 h1 hr hl hg; omega)), Rat.mul_zero, Rat.add_zero]
noncomputable abbrev sL_row_due : Stmt := top 42
theorem scL_row_due : FnScope ["_law_doors", "_law_parts", "_law_many", "_law_products", "_law_door", "_law_share", "_law_room", "_law_chance", "_law_chances"] ["_law_doors", "_law_parts", "_law_many"] (defScope sL_row_due) := ⟨rfl, rfl, rfl, by decide +kernel, rfl, by decide +kernel, by decide +kernel⟩
theorem ok_rowdue (B : Blt mg) (DLsum : Dfn P w K mg base 3 "_law_sum" ["_law_products"] (spSum K)) (T : TxtD K mg "_law_row_due" sL_row_due ["_law_doors", "_law_parts", "_law_many"]) : Dfn P w K mg base 4 "_law_row_due" ["_law_doors", "_law_parts", "_law_many"] (spMixRow K) := by
  refine T.ok scL_row_due (fun vs H Q E h => ?_) (fun f cdv A outer s H vs Q E hr h => ?_)
  · obtain ⟨a, b, n, us, ds, ms, rfl, _⟩ := h
    rfl
  obtain ⟨a, b, n, us, ds, ms, rfl, hS, hA, ⟨zs, hT, hB⟩, sh, hd4, hn10, hgr, q⟩ := h
  refine ⟨_, (pss_cons (ps_setC (i := 3) ["_law_room"] [] scL_row_due.nd rfl rfl rfl (pi_range1 rfl B.range (pa_cons (pv 2) pa_nil)) (fun Z nd => (pg_name (i := 0) nd rfl (Or.inl rfl))) (fun Z => pts_nil) (fun Z => (pe_lst pa_nil)))
      (pss_cons (ps_for PassesOwn.never rfl (pi_zip K rfl B.zip (pa_cons (pv 0) (pa_cons (pv 1) pa_nil))) (pgT K (n := 2) rfl (pgs_cons (pg_name (i := 4) scL_row_due.nd rfl (Or.inl rfl)) (pgs_cons (pg_name (i := 5) scL_row_due.nd rfl (Or.inl rfl)) pgs_nil)))
        (pss_one (ps_for PassesOwn.never rfl (piL K (pe_ix (ixT K) (pv 4) pe_int (fun _ _ => rfl))) (pgT K (n := 2) rfl (pgs_cons (pg_name (i := 6) scL_row_due.nd rfl (Or.inl rfl)) (pgs_cons (pg_name (i := 7) scL_row_due.nd rfl (Or.inl rfl)) pgs_nil)))
          (pss_one (ps_expr (pe_bm PySem.F.plainAttrs_list PySem.F.slot_list_append PySem.F.type_list_append mt_append (pe_ix (ixL K) (pv 3) (pv 6) (fun _ _ => rfl)) (pa_cons (pe_tup (pa_cons (pv 5) (pa_cons (pv 7) pa_nil))) pa_nil)))))))
      (pss_cons (ps_set (i := 8) scL_row_due.nd rfl (Or.inr rfl) (pe_comp ["_law_some"] [] rfl (piL K (pv 3)) (fun Z nd => (pg_name (i := 0) nd rfl (Or.inl rfl))) (fun Z => pts_nil) (fun Z => (pe_callD DLsum hr (pa_cons (pv 0) pa_nil)))))
      (pss_one (ps_ret (pe_comp ["_law_room"] [8] rfl (pi_range1 rfl B.range (pa_cons (pv 2) pa_nil)) (fun Z nd => (pg_name (i := 0) nd rfl (Or.inl rfl))) (fun Z => (pts_one (pt_cmpR op_gt (pe_ix (ixT K) (pe_ix (ixL K) (pv 1) (pv 0) (fun _ _ => rfl)) pe_int (fun _ _ => rfl)) pe_int (nomark _)))) (fun Z => (pe_tup (pa_cons (pv 0) (pa_cons (pe_ix (ixL K) (pv 1) (pv 0) (fun _ _ => rfl)) pa_nil)))))))))), ?_⟩
  have hul := hA.len
  have hzl := hB.len
  have hml := sh.len
  refine ⟨_, rfl, _, rfl, by (clear hml hzl hul hd4; omega), by (clear hml hzl hul hd4; omega), comp_range (fun i ys H' => Same H H' ∧ ∃ ls : List Addr, ys = ls.map V.ref ∧ ls.length = i ∧ Inj ls ∧ ∀ l ∈ ls, H l = none ∧ H' l = some (.lst [])) (small1000 (by (clear hml hzl hul hd4; omega))) ⟨Same.refl _, [], rfl, rfl, (fun i j l h => by simp at h), by simp⟩ (fun i ys H' _ h => by obtain ⟨_, ls, rfl, e, _⟩ := h; rw [List.length_map, e]; exact Nat.le_refl _) ?_ ?_⟩
  · rintro i ys H1 hi ⟨s1, ls, rfl, hll, inj, hls⟩
    refine ⟨keep1, allT ⟨small (by decide), fun l hl => ?_⟩⟩
    have sl := same_new hl (.lst [])
    refine ⟨s1.trans sl, ls ++ [l], by rw [List.map_append]; rfl, len1 hll, inj.snoc (fun h => by rw [(hls l h).2] at hl; cases hl), fun x hx => ?_⟩
    rcases List.mem_append.mp hx with z | z
    · exact ⟨(hls x z).1, sl _ _ (hls x z).2⟩
    · rw [List.mem_singleton.mp z]; exact ⟨s1.free hl, upd_same⟩
  rintro ys H1 ⟨s1, ls, rfl, hll, inj, hls⟩ D hD
  have sD := same_new hD (.lst (ls.map V.ref))
  have hDn : D ∉ ls := fun h => by rw [(hls D h).2] at hD; cases hD
  have R0 : Rooms K (upd H1 D (.lst (ls.map V.ref))) ls [] := fun r l hr' => ⟨[], [], sD _ _ (hls l (List.mem_of_getElem? hr')).2, by simp [Ats], rfl, Nat.le_refl _, by simp⟩
  have s0 := s1.trans sD
  have hD0 : (upd H1 D (.lst (ls.map V.ref))) D = some (.lst (ls.map V.ref)) := upd_same
  have hlf : ∀ l ∈ ls, H l = none := fun l h => (hls l h).1
  have hln : ls.length = n := by simpa using hll
  generalize upd H1 D (.lst (ls.map V.ref)) = H0 at s0 hD0 R0
  refine ⟨_, rfl, _, rfl, a, b, us, zs, rfl, s0.seq hS, s0.seq hT, for_zip (a := a) (b := b) (xs := us) (zs := zs) (fun i σ H' => ∃ (o4 o5 o6 o7 : Option V), σ = [some (.ref a), some (.ref b), some (.int (n : Int)), some (.ref D), o4, o5, o6, o7, none] ∧ Same H H' ∧ H' D = some (.lst (ls.map V.ref)) ∧ Rooms K H' ls (mixP ((ds.zip ms).take i)) ∧ (mixP ((ds.zip ms).take i)).length ≤ 10 * i) (by (clear hD0 hln hDn hD hll hn10 hd4; omega)) ?_ ?_ ?_ ?_⟩
  · exact ⟨_, _, _, _, rfl, s0, hD0, R0, by simp [mixP]⟩
  · rintro i σ H' _ ⟨o4, o5, o6, o7, rfl, s1, _⟩
    exact ⟨s1.seq hS, s1.seq hT⟩
  · rintro i x z σ H1 t hx hz' ⟨o4, o5, o6, o7, rfl, s1, hD1, R1, hl1⟩ ht
    have st := same_new ht (.tup [x, z])
    obtain ⟨d, hd, had⟩ := hA.gets hx
    obtain ⟨p, cc, ra, rx, rfl, hpt, fcc, hr1, hr2⟩ := had.door
    obtain ⟨m, pm, hm, rfl, fm⟩ := hB.fr hz'
    have zat := zip_at hd hm
    have gr := hgr d (List.mem_of_getElem? hd)
    have zm := sh.sm m (List.mem_of_getElem? hm)
    have hi4 : i < ds.length := (List.getElem?_eq_some_iff.mp hd).1
    have hrl := hr2.len
    have grl := gr.len
    have s1t := s1.trans st
    refine ⟨t, _, rfl, sqT_new, rfl, _, _, rfl, _, _, rfl, rfl, ?_⟩
    refine ⟨_, rfl, p, _, _, _, rfl, rfl, s1t.tup hpt, at1, ra, rfl, ⟨_, s1t.seq hr1⟩, for_list (xs := rx) (fun j σ H' => j ≤ d.2.length ∧ ∃ (o6 o7 : Option V), σ = [some (.ref a), some (.ref b), some (.int (n : Int)), some (.ref D), some (.ref p), some (.ref pm), o6, o7, none] ∧ Same H H' ∧ H' D = some (.lst (ls.map V.ref)) ∧ Rooms K H' ls (mixP ((ds.zip ms).take i) ++ (d.2.take j).map fun w => (w.1, m * w.2))) ?_ ?_ ?_ ?_⟩
    · exact ⟨Nat.zero_le _, _, _, rfl, s1t, st _ _ hD1, by rw [List.take_zero, List.map_nil, List.append_nil]; exact R1.same st⟩
    · rintro j σ H' _ ⟨_, o6, o7, rfl, s2, _⟩
      exact s2.seq hr1
    · rintro j y σ H2 hy ⟨hj, o6, o7, rfl, s2, hD2, R2⟩
      obtain ⟨w', tp, c, hw', rfl, htp, fc⟩ := (hr2.same s2).way hy
      have hjl : j < d.2.length := (List.getElem?_eq_some_iff.mp hw').1
      obtain ⟨w0, w1, w2, w3⟩ := gr.way w' (List.mem_of_getElem? hw')
      obtain ⟨g, hg⟩ : ∃ g : Nat, w'.1 = (g : Int) := ⟨_, (Int.toNat_of_nonneg w0).symm⟩
      have hgl : g < ls.length := by (clear w2 w0 hjl hy hw' hD2 hj grl hrl hi4 zat hz' hm hx hd ht hl1 hD1 hD0 hDn hD hml hzl hul hn10 hd4; omega)
      have hlg := List.getElem?_eq_getElem hgl
      generalize ls[g] = l at hlg
      obtain ⟨vl, pl, hl2, hA2, hs2, hc2, hz2⟩ := R2 g l hlg
      have hvl := hA2.length
      rw [List.length_map] at hvl
      rw [List.length_append, List.length_map, List.length_take] at hc2
      have eat : atI (ls.map V.ref) w'.1 = some (.ref l) := by rw [hg]; exact atI_nat (by rw [List.getElem?_map, hlg]; rfl)
      refine ⟨tp, _, rfl, htp, rfl, _, _, rfl, _, _, rfl, rfl, ?_⟩
      refine ⟨_, rfl, _, rfl, D, _, _, _, rfl, rfl, SqL.of hD2, eat, .inl ⟨rfl, _, SqL.of hl2⟩, _, rfl, _, rfl, small (by show 2 ≤ 1000; decide), fun t2 ht2 => ?_⟩
      have st2 := same_new ht2 (.tup [.ref pm, .ref c])
      refine ⟨l, vl, _, rfl, rfl, st2 _ _ hl2, small1000 (by (clear ht2 eat hs2 hl2 hlg hgl hg w2 w1 w0 hy hw' hD2 hj zat hz' hm hx hd ht hD1 hD0 hln hDn hD hll hzl hn10; omega)), ?_⟩
      have lm := List.mem_of_getElem? hlg
      have hDl : D ≠ l := fun e => hDn (e ▸ lm)
      refine ⟨hjl, _, _, rfl, same_upd (s2.trans st2) (hlf l lm), by rw [upd_ne hDl]; exact st2 _ _ hD2, ?_⟩
      have e : (d.2.take (j + 1)).map (fun w => (w.1, m * w.2)) = (d.2.take j).map (fun w => (w.1, m * w.2)) ++ [((g : Int), m * w'.2)] := by rw [take_snoc hw', List.map_append, ← hg]; rfl
      rw [e, ← List.append_assoc]
      exact (R2.same st2).put inj hlg (st2 _ _ hl2) sqT_new (st2.tup (s2.tup fm)) (st2.tup fc) zm w3
    · rintro σ H2 ⟨hj, o6, o7, rfl, s2, hD2, R2⟩
      rw [hrl, List.take_length] at R2
      refine ⟨_, _, _, _, rfl, s2, hD2, ?_, ?_⟩
      · rw [take_snoc zat, mixP_snoc]; exact R2
      · rw [take_snoc zat, mixP_snoc, List.length_append, List.length_map]
        show _ + d.2.length ≤ _
        (clear hD2 hj hi4 zat hz' hm hx hd ht hD1 hD0 hln hDn hD hll hml hzl hul hn10 hd4; omega)
  rintro σ H1 ⟨o4, o5, o6, o7, rfl, s1, hD1, R1, hl1⟩
  rw [List.take_of_length_le (by rw [List.length_zip]; (clear hl1 hD1 hD0 hln hDn hD hll hzl hn10 hd4; omega))] at R1 hl1
  have mem : ∀ p ∈ mixP (ds.zip ms), ¬ p.2 < 0 := fun p hp => by
    obtain ⟨z, hz, w', hw', rfl⟩ := mixP_mem hp
    have hz2 := List.of_mem_zip (show (z.1, z.2) ∈ ds.zip ms from hz)
    obtain ⟨w0, w1, w2, w3⟩ := (hgr z.1 hz2.1).way w' hw'
    exact nonneg_mul (sh.pos z.2 hz2.2) w2
  generalize mixP (ds.zip ms) = M at R1 hl1 mem q
  have gat : ∀ i : Nat, i < n → (mixG n M)[i]? = some (pf M (ind (i : Int))) := fun i hi => by
    unfold mixG; rw [List.getElem?_map, List.getElem?_range hi]; rfl
  have gln : (mixG n M).length = n := by unfold mixG; rw [List.length_map, List.length_range]
  refine ⟨_, rfl, D, rfl, ⟨_, SqL.of hD1⟩, comp_list (xs := ls.map V.ref) (fun i ys H' => Same H1 H' ∧ ys.length ≤ i ∧ Ats K H' (((mixG n M).take i).map frD) ys) (by rw [List.length_map]; exact small1000 (by (clear hl1 hD1 hD0 hDn hD hml hzl hul hd4; omega))) ⟨Same.refl _, Nat.le_refl _, by simp [Ats]⟩ (fun i ys H' _ h => ⟨SqL.of (h.1 _ _ hD1), h.2.1⟩) ?_ ?_⟩
  · rintro i x ys H2 hx ⟨s2, hyl, hA2⟩
    obtain ⟨l, hl, rfl⟩ : ∃ l, ls[i]? = some l ∧ x = .ref l := by
      rw [List.getElem?_map] at hx
      cases e : ls[i]? with
      | none => rw [e] at hx; cases hx
      | some l => rw [e] at hx; exact ⟨l, rfl, by simpa using hx.symm⟩
    obtain ⟨vl, pl, hl2, hA3, hs2, hc2, hz2⟩ := R1 i l hl
    have hil : i < n := by rw [← hln]; exact (List.getElem?_eq_some_iff.mp hl).1
    refine ⟨keep1, allT ⟨_, rfl, l, vl, pl, rfl, SqL.of (s2 _ _ hl2), (hA3.same rem_same).same s2, hz2, by (clear hil hs2 hl2 hx hl hyl gln hD1 hD0 hln hDn hD hll hzl hn10; omega), fun p3 H3 s3 f3 => ⟨s2.trans s3, by rw [List.length_append]; exact Nat.succ_le_succ hyl, ?_⟩⟩⟩
    rw [take_snoc (gat i hil), List.map_append]
    rw [hs2] at f3
    exact (hA2.same s3).snoc (FracT.at f3)
  rintro yc H2 ⟨s2, _, hA2⟩ C hC
  rw [List.take_of_length_le (by rw [List.length_map]; (clear hC hl1 hD1 hD0 hDn hD hml hzl hul hn10 hd4; omega))] at hA2
  have sC := same_new hC (.lst yc)
  have hC2 : (upd H2 C (.lst yc)) C = some (.lst yc) := upd_same
  have s12 := (s1.trans s2).trans sC
  have hAC := hA2.same sC
  generalize upd H2 C (.lst yc) = H3 at hC2 s12 hAC
  have hycl := hAC.len
  refine ⟨_, rfl, _, rfl, by (clear hC2 hC hl1 hD1 hD0 hDn hD hml hzl hul hd4; omega), by (clear hC2 hC hl1 hD1 hD0 hDn hD hml hzl hul hd4; omega), ?_⟩
  refine comp_range (fun k ys H' => Same H3 H' ∧ ys.length ≤ k ∧ Ats K H' ((dueL 0 ((mixG n M).take k)).map wD) ys) (small1000 (by (clear hC2 hC hl1 hD1 hD0 hDn hD hml hzl hul hd4; omega))) ⟨Same.refl _, Nat.le_refl _, by simp [Ats, dueL]⟩ (fun k ys H' _ h => h.2.1) ?_ ?_
  · rintro k ys H4 hk ⟨s4, hyl, hA4⟩
    have hkn : k < n := by (clear hyl hC2 hC hl1 hD1 hD0 hDn hD hml hzl hul hn10 hd4; omega)
    obtain ⟨r, p, hr', e, fr⟩ := hAC.fr (List.getElem?_eq_getElem (show k < yc.length by (clear hkn hyl hC2 hC hl1 hD1 hD0 hDn hD hml hzl hul hn10 hd4; omega)))
    have er := hr'
    rw [gat k hkn] at er
    have er : pf M (ind (k : Int)) = r := Option.some.inj er
    have rpos : 0 ≤ r := er ▸ pf_pos mem
    have z0 : (0 : Int) + (k : Int) = (k : Int) := by (clear rpos er e hr' hkn hyl hk hycl hC2 hC gln hl1 hD1 hD0 hln hDn hD hll hml hzl hul hn10 hd4; omega)
    have hat : atI yc (0 + (k : Int)) = some (.ref p) := by rw [z0]; exact atI_nat (by rw [List.getElem?_eq_getElem (show k < yc.length by (clear z0 rpos er e hr' hkn hyl hC2 hC hl1 hD1 hD0 hDn hD hml hzl hul hn10 hd4; omega)), e])
    have hC4 := s4 _ _ hC2
    have el : (0 : Int) + ((((mixG n M).take k).length : Nat) : Int) = 0 + (k : Int) := by rw [List.length_take]; (clear hC4 hat z0 rpos er e hr' hkn hyl hC2 hC hl1 hD1 hD0 hDn hD hml hzl hul hn10 hd4; omega)
    refine ⟨keep1, _, rfl, _, rfl, C, _, _, _, rfl, rfl, SqL.of hC4, hat, p, _, _, _, rfl, rfl, s4.tup fr, at0, _, _, rfl, rfl, _, rfl, ?_⟩
    refine ite2 (fun cc => ?_) (fun cc => ?_)
    · have c' : 0 < r.num := of_decide_eq_true cc
      have hne : ¬ r = 0 := fun z => by rw [z] at c'; exact absurd c' (by decide)
      refine ⟨_, rfl, _, rfl, _, rfl, C, _, _, _, rfl, rfl, SqL.of hC4, hat, small (by show 2 ≤ 1000; decide), fun t ht => ?_⟩
      have st := same_new ht (.tup [.int (0 + (k : Int)), .ref p])
      refine ⟨s4.trans st, by rw [List.length_append]; exact Nat.succ_le_succ hyl, ?_⟩
      rw [take_snoc hr', dueL_snoc, if_neg hne, el, List.map_append]
      exact (hA4.same st).snoc (way_at sqT_new ((s4.trans st).tup fr))
    · have c' : ¬ 0 < r.num := of_decide_eq_false (Bool.eq_false_iff.mpr cc)
      have h0 : r = 0 := by
        have h1 : ¬ 0 < r := fun z => c' (by
          rw [Rat.lt_iff] at z
          simpa using z)
        exact Rat.le_antisymm (Rat.not_lt.mp h1) rpos
      refine ⟨s4, Nat.le_succ_of_le hyl, ?_⟩
      rw [take_snoc hr', dueL_snoc, if_pos h0, List.append_nil]
      exact hA4
  · rintro ys H4 ⟨s4, hyl, hA4⟩ F hF
    have sF := same_new hF (.lst ys)
    rw [List.take_of_length_le (by (clear hF hyl hycl hC2 hC hl1 hD1 hD0 hDn hD hml hzl hul hn10 hd4; omega))] at hA4
    exact q F _ ys ((s12.trans s4).trans sF) ((s12.trans s4).free hF) upd_same (hA4.same sF)
end
end Law
set_option Elab.async false
set_option linter.all false
set_option maxRecDepth 100000
set_option maxHeartbeats 4000000
local macro_rules | `(tactic| walk_at "rd") => `(tactic| repeat (first | refine ⟨_, rfl, ?_⟩ | refine ⟨_, _, rfl, rfl, ?_⟩ | refine ⟨rfl, ?_⟩ | refine ⟨_, _, _, _, rfl, rfl, by assumption, rfl, ?_⟩))
namespace Law
open PySem PySem.Spec PyProof.Rows L2 CH
section
variable {P : Program} {w : World} {K : PySem.W.Frag} {mg : Str → Option Value} {base : Heap}
/-- list + list, of any lists -/
noncomputable def rCatS (K : PySem.W.Frag) : R2 := fun x y H Q => ∃ l b xs zs, x = .ref l ∧ y = .ref b ∧ SqL K H l xs ∧ SqL K H b zs ∧ xs.length + zs.length ≤ sizeLine ∧ ∀ p, H p = none → Q (.ref p) (upd H p (.lst (xs ++ zs)))
theorem catK (K : PySem.W.Frag) {X : Cx} (hK : X.K = K := by rfl) : OpR X (binaryOp .Add) (rCatS K) := by
  subst hK
  intro pins s σ H x y v u Q I rx ry h
  obtain ⟨l, b, xs, zs, rfl, rfl, h1, h2, hz, q⟩ := h
  cases rx; cases ry
  obtain ⟨its, r1, p1, _⟩ := I.list h1
  obtain ⟨its2, r2, p2, _⟩ := I.list h2
  obtain ⟨⟨cls, dd, data, sl⟩, ho, hc, n, hd⟩ := id p1.isList
  obtain ⟨⟨cls2, dd2, data2, sl2⟩, ho2, hc2, n2, hd2⟩ := id p2.isList
  simp only at hc hd hc2 hd2
  subst hc hd hc2 hd2
  have l1 := r1.length
  have l2 := r2.length
  have e : its.toArray ++ its2.toArray = (its ++ its2).toArray := by simp
  refine concat_meets ⟨_, ho, rfl⟩ ⟨_, ho2, rfl⟩ noFill_list_add seq_list_add PySem.F.slot_list_add PySem.F.entry_list_add (PySem.F.args_list_add_2 _ _) (PyProof.Rows.list_addW l b its.toArray its2.toArray n n2 dd dd2 sl sl2 (by rw [List.size_toArray, List.size_toArray]; (clear e ho2 ho; omega))) ⟨ho, ho2, ?_⟩
  rw [e]
  refine ⟨.ref s.heap.objs.size, _, I.laid (t' := s.toks) (o := .lst (xs ++ zs)) (fun b ob q => Heap.get?_push_of_some _ q) (Nat.le_refl _) ?_, rfl, q _ (I.hok.fresh (Nat.le_refl _))⟩
  exact ⟨by rw [List.length_append]; exact hz, _, 0, r1.append r2, Heap.get?_push_size _ rfl⟩
theorem shift_cop (q : Rat) (c : Int) : (q.num + c * (q.den : Int)).natAbs.Coprime q.den := by
  show Nat.gcd _ _ = 1
  have h1 := Nat.gcd_dvd_left (q.num + c * (q.den : Int)).natAbs q.den
  have h2 := Nat.gcd_dvd_right (q.num + c * (q.den : Int)).natAbs q.den
  generalize Nat.gcd (q.num + c * (q.den : Int)).natAbs q.den = k at h1 h2
  have h3 : (k : Int) ∣ q.num + c * (q.den : Int) := Int.ofNat_dvd_left.mpr h1
  have h4 : (k : Int) ∣ (q.den : Int) := Int.natCast_dvd_natCast.mpr h2
  obtain ⟨x, hx⟩ := h3
  obtain ⟨y, hy⟩ := h4
  have h5 : (k : Int) ∣ q.num := ⟨x - c * y, by grind⟩
  have h6 := Nat.dvd_gcd (Int.ofNat_dvd_left.mp h5) h2
  have h7 : q.num.natAbs.gcd q.den = 1 := q.reduced
  rw [h7] at h6
  exact Nat.dvd_one.mp h6
/-- a fraction and a whole number -/
noncomputable def shiftR (q : Rat) (c : Int) : Rat := ⟨q.num + c * (q.den : Int), q.den, q.den_nz, shift_cop q c⟩
theorem shift_neg {q : Rat} (h1 : q ≤ 1) : shiftR q (-2) < 0 := by
  rw [Rat.le_iff] at h1
  have h : q.num * (((1 : Rat).den : Nat) : Int) ≤ (1 : Rat).num * (q.den : Int) := h1
  have e1 : (((1 : Rat).den : Nat) : Int) = 1 := rfl
  have e2 : (1 : Rat).num = 1 := rfl
  rw [e1, e2] at h
  rw [Rat.lt_iff]
  show (q.num + -2 * (q.den : Int)) * (1 : Int) < 0 * (q.den : Int)
  have := den_pos q
  (clear e2 e1 h1; omega)
theorem shift_sm {q : Rat} {c : Int} (z : Sm 40 q) (hc : bits c ≤ 2) : Sm 60 (shiftR q c) := ⟨bits_mono (CH.bits_add z.num (CH.bits_mul hc z.den)) (by decide), bits_mono z.den (by decide)⟩
theorem rsum_nn : ∀ {ms : List Rat}, (∀ q ∈ ms, ¬ q < 0) → 0 ≤ rsum ms
  | [], _ => Rat.le_refl
  | m :: ms, h => by
    rw [rsum_cons]
    have := rsum_nn (ms := ms) fun x hx => h x (List.mem_cons_of_mem _ hx)
    have := Rat.not_lt.mp (h m (by simp))
    grind
theorem le_rsum : ∀ {ms : List Rat}, (∀ q ∈ ms, ¬ q < 0) → ∀ q ∈ ms, q ≤ rsum ms
  | [], _, q, h => by simp at h
  | m :: ms, h, q, hq => by
    rw [rsum_cons]
    have n := rsum_nn (ms := ms) fun x hx => h x (List.mem_cons_of_mem _ hx)
    have m0 := Rat.not_lt.mp (h m (by simp))
    rcases List.mem_cons.mp hq with e | e
    · subst e; grind
    · have := le_rsum (ms := ms) (fun x hx => h x (List.mem_cons_of_mem _ hx)) q e
      grind
theorem rsum_set : ∀ {ms : List Rat} {j : Nat} {q c : Rat}, ms[j]? = some q → rsum (ms.set j (q + c)) = rsum ms + c
  | [], j, q, c, h => by simp at h
  | m :: ms, 0, q, c, h => by
    simp at h
    subst h
    rw [List.set_cons_zero, rsum_cons, rsum_cons]
    grind
  | m :: ms, j + 1, q, c, h => by
    have ih := rsum_set (ms := ms) (j := j) (q := q) (c := c) (by simpa using h)
    rw [List.set_cons_succ, rsum_cons, rsum_cons, ih]
    grind
theorem twice_div (q : Rat) : Rat.divInt (2 * q.num) (q.den : Int) = q + q := by
  have h := divInt_sum (s := q.num) (x := q.num) (den_ne q)
  rw [Rat.num_divInt_den] at h
  rw [h]
  congr 1
  (clear h; omega)
theorem shB_neg {k : Nat} {ms : List Rat} {q : Rat} (hq : q ∈ ms) (h : q < 0) : shB k ms = false := by
  have e : (ms.map fun q => decide (q < 0)).any id = true := by
    rw [List.any_eq_true]
    exact ⟨true, List.mem_map.mpr ⟨q, hq, decide_eq_true h⟩, rfl⟩
  unfold shB
  rw [e, Bool.not_true, Bool.and_false, Bool.false_and]
theorem shB_len {k : Nat} {ms : List Rat} (h : ms.length ≠ k) : shB k ms = false := by
  unfold shB
  rw [decide_eq_false h]; rfl
theorem shB_sum {k : Nat} {ms : List Rat} (h : rsum ms ≠ 1) : shB k ms = false := by
  unfold shB
  rw [decide_eq_false h, Bool.and_false]
theorem put_at {α : Type} {l : List α} {i : Nat} {x : α} (h : i < l.length) : (l.take i ++ [x] ++ l.drop (i + 1))[i]? = some x := by
  have e : (l.take i).length = i := by rw [List.length_take]; omega
  rw [List.append_assoc, List.getElem?_append_right (by (clear h; omega)), e, Nat.sub_self]
  rfl
theorem MixZ.of {mss nss : List (List Rat)} {ms : List Rat} (h : MixZ mss) (hl : nss.length ≤ 20) (hm : ∀ x ∈ nss, x ∈ mss ∨ x = ms) (l1 : ms.length ≤ 20) (z1 : ∀ q ∈ ms, Sm 60 q) : MixZ nss := by
  refine ⟨hl, fun x hx => ?_, fun x hx q hq => ?_⟩
  · rcases hm x hx with e | e
    · exact h.lens x e
    · rw [e]; exact l1
  · rcases hm x hx with e | e
    · exact h.sm x e q hq
    · rw [e] at hq; exact z1 q hq
theorem frs_at {H : Hp} {l : Addr} {ms : List Rat} {ws : List V} (h : SqL K H l ws) (hA : Ats K H (ms.map frD) ws) : At K H (frsD ms) (.ref l) := by
  simp only [frsD, At]
  exact ⟨l, ws, rfl, h, hA⟩
theorem Ats.setAt {H : Hp} : ∀ {ms : List Rat} {ws : List V} (j : Nat) {q : Rat} {v : V}, Ats K H (ms.map frD) ws → At K H (frD q) v → Ats K H ((ms.set j q).map frD) (ws.set j v)
  | [], ws, j, q, v, h, _ => by
    simp only [List.map_nil, Ats] at h
    subst h
    simp [Ats]
  | m :: ms, ws, j, q, v, h, hv => by
    simp only [List.map_cons, Ats] at h
    obtain ⟨w0, r, e, h1, h2⟩ := h
    subst e
    cases j with
    | zero =>
      simp only [List.set_cons_zero, List.map_cons, Ats]
      exact ⟨v, r, rfl, hv, h2⟩
    | succ j =>
      simp only [List.set_cons_succ, List.map_cons, Ats]
      exact ⟨w0, _, rfl, h1, Ats.setAt j h2 hv⟩
theorem set_mem2 {ms : List Rat} {j : Nat} {x q : Rat} (h : q ∈ ms.set j x) : q ∈ ms ∨ q = x := List.mem_or_eq_of_mem_set h
noncomputable abbrev sL_spoilt : Stmt := top 39
theorem scL_spoilt : FnScope ["_law_script", "_law_house_here", "_law_mix_here", "_law_way", "_law_room", "_law_parts", "_law_at", "_law_top", "_law_bottom"] ["_law_script", "_law_house_here", "_law_mix_here"] (defScope sL_spoilt) := ⟨rfl, rfl, rfl, by decide +kernel, rfl, by decide +kernel, by decide +kernel⟩
/-- lists of shares that are no mix -/
noncomputable def spLSpoilt (K : PySem.W.Frag) : Sp := fun vs H Q _ => ∃ (a b r : Addr) (ns : List Int) (us zs : List V) (hs : List (List Door)) (mss : List (List Rat)), vs = [.ref a, .ref b, .ref r] ∧ SqL K H a (ns.map V.int) ∧ SqL K H b us ∧ Ats K H (hs.map doorsD) us ∧ GoodHouse hs ∧ SqL K H r zs ∧ Ats K H (mss.map frsD) zs ∧ MixOk hs mss ∧ MainOk ns hs mss ∧
  ∀ l H' vs' mss', Same H H' → SqL K H' l vs' → Ats K H' (mss'.map frsD) vs' → MixZ mss' → mixB hs mss' = false → Q (.ref l) H'
theorem ok_spoilt (B : Blt mg) (DLcell_at : Dfn P w K mg base 1 "_law_cell_at" ["_law_script", "_law_k"] (spCell K)) (DLlowest : Dfn P w K mg base 2 "_law_lowest" ["_law_top", "_law_bottom"] (spLowP K)) (DLmain : Dfn P w K mg base 2 "_law_main" ["_law_script", "_law_house_here", "_law_room"] (spMain K)) (T : TxtD K mg "_law_spoilt" sL_spoilt ["_law_script", "_law_house_here", "_law_mix_here"]) : Dfn P w K mg base 3 "_law_spoilt" ["_law_script", "_law_house_here", "_law_mix_here"] (spLSpoilt K) := by
  refine T.ok scL_spoilt (fun vs H Q E h => ?_) (fun f cdv A outer s H vs Q E hr h => ?_)
  · obtain ⟨a, b, r, ns, us, zs, hs, mss, rfl, _⟩ := h
    rfl
  obtain ⟨a, b, r, ns, us, zs, hs, mss, rfl, hS, hU, hA, g, hR, hB, ok, mn, q⟩ := h
  refine ⟨_, (pss_cons (ps_set (i := 3) scL_spoilt.nd rfl (Or.inl rfl) (pe_callD DLcell_at hr (pa_cons (pv 0) (pa_cons pe_int pa_nil))))
      (pss_cons (ps_set (i := 4) scL_spoilt.nd rfl (Or.inl rfl) (pe_op op_mod (pe_op op_fdivP (pv 3) pe_int) (pe_callB (lenK K) (by rfl) B.len boot_len (pa_cons (pv 2) pa_nil))))
      (pss_cons (ps_set (i := 5) scL_spoilt.nd rfl (Or.inl rfl) (pe_callTy (lstK K) rfl B.list boot_list (pa_cons (pe_ix (ixL K) (pv 2) (pv 4) (fun _ _ => rfl)) pa_nil)))
      (pss_cons (ps_set (i := 6) scL_spoilt.nd rfl (Or.inl rfl) (pe_op op_mod (pe_callD DLcell_at hr (pa_cons (pv 0) (pa_cons pe_int pa_nil))) (pe_callB (lenK K) (by rfl) B.len boot_len (pa_cons (pv 5) pa_nil))))
      (pss_cons (ps_if (pt_cmpR op_eq (pe_op op_mod (pv 3) pe_int) pe_int (nomark _))
        (pss_cons (ps_asg (pe_ix (ixL K) (pv 5) (pv 6) (fun _ _ => rfl)) (pgT K (n := 2) rfl (pgs_cons (pg_name (i := 7) scL_spoilt.nd rfl (Or.inl rfl)) (pgs_cons (pg_name (i := 8) scL_spoilt.nd rfl (Or.inl rfl)) pgs_nil))))
        (pss_cons (ps_asg (pe_tup (pa_cons (pe_op op_sub (pv 7) (pe_op op_mulB pe_int (pv 8))) (pa_cons (pv 8) pa_nil))) (pg_sub (pv 5) (pv 6) set_list))
        (pss_one (ps_if (pt_cmpR op_gt (pv 6) pe_int (nomark _))
          (pss_cons (ps_asg (pe_ix (ixL K) (pv 5) (pe_op op_sub (pv 6) pe_int) (fun _ _ => rfl)) (pgT K (n := 2) rfl (pgs_cons (pg_name (i := 7) scL_spoilt.nd rfl (Or.inl rfl)) (pgs_cons (pg_name (i := 8) scL_spoilt.nd rfl (Or.inl rfl)) pgs_nil))))
          (pss_one (ps_asg (pe_tup (pa_cons (pe_op op_add (pv 7) (pe_op op_mulB pe_int (pv 8))) (pa_cons (pv 8) pa_nil))) (pg_sub (pv 5) (pe_op op_sub (pv 6) pe_int) set_list))))
          pss_nil))))
        (pss_one (ps_if (pt_cmpR op_eq (pe_op op_mod (pv 3) pe_int) pe_int (nomark _))
          (pss_cons (ps_set (i := 6) scL_spoilt.nd rfl (Or.inl rfl) (pe_callD DLmain hr (pa_cons (pv 0) (pa_cons (pv 1) (pa_cons (pv 4) pa_nil)))))
          (pss_one (ps_asg (pe_callD DLlowest hr (pa_cons (pe_op op_mulB pe_int (pe_ix (ixT K) (pe_ix (ixL K) (pv 5) (pv 6) (fun _ _ => rfl)) pe_int (fun _ _ => rfl))) (pa_cons (pe_ix (ixT K) (pe_ix (ixL K) (pv 5) (pv 6) (fun _ _ => rfl)) pe_int (fun _ _ => rfl)) pa_nil))) (pg_sub (pv 5) (pv 6) set_list))))
          (pss_one (ps_if (pt_cmpR op_eq (pe_op op_mod (pv 3) pe_int) pe_int (nomark _))
            (pss_one (ps_expr (pe_bm PySem.F.plainAttrs_list PySem.F.slot_list_append PySem.F.type_list_append mt_append (pv 5) (pa_cons (pe_tup (pa_cons pe_int (pa_cons pe_int pa_nil))) pa_nil))))
            (pss_one (ps_if (pt_cmpR op_eq (pe_op op_mod (pv 3) pe_int) pe_int (nomark _))
              (pss_one (ps_expr (pe_bm PySem.F.plainAttrs_list PySem.F.slot_list_pop PySem.F.type_list_pop mt_popAt (pv 5) (pa_cons (pv 6) pa_nil))))
              (pss_one (ps_if (pt_cmpR op_eq (pe_op op_mod (pv 3) pe_int) pe_int (nomark _))
                (pss_one (ps_ret (pe_op (catK K) (pe_op (catK K) (pe_slice (slL K) (pv 2) po_none (po_some (pv 4))) (pe_lst (pa_cons (pe_lst (pa_cons (pe_tup (pa_cons pe_int (pa_cons pe_int pa_nil))) pa_nil)) pa_nil))) (pe_slice (slL K) (pv 2) (po_some (pv 4)) po_none))))
                (pss_one (ps_ret (pe_op (catK K) (pe_slice (slL K) (pv 2) po_none (po_some (pv 4))) (pe_slice (slL K) (pv 2) (po_some (pe_op op_add (pv 4) pe_int)) po_none)))))))))))))
      (pss_one (ps_ret (pe_op (catK K) (pe_op (catK K) (pe_slice (slL K) (pv 2) po_none (po_some (pv 4))) (pe_lst (pa_cons (pv 5) pa_nil))) (pe_slice (slL K) (pv 2) (po_some (pe_op op_add (pv 4) pe_int)) po_none))))))))), ?_⟩
  have hul := hA.len
  have hzl := hB.len
  have hml := ok.len
  have gl := g.len
  have gp := g.pos
  have mz := ok.z g
  refine ⟨_, rfl, a, ns, _, rfl, hS, by decide, ?_⟩
  generalize ns.getD _ 0 = way
  refine ⟨_, rfl, _, _, rfl, rfl, ⟨by decide, by decide⟩, _, rfl, _, _, rfl, .inl hR, _, _, rfl, rfl, by show (0 : Int) < (zs.length : Int); (clear hul; omega), ?_⟩
  have c0 : 0 ≤ (way / 6 % (zs.length : Int)) := Int.emod_nonneg _ (show (zs.length : Int) ≠ 0 by (clear hul; omega))
  have c1 : (way / 6 % (zs.length : Int)) < (zs.length : Int) := Int.emod_lt_of_pos _ (show (0 : Int) < (zs.length : Int) by (clear c0 hul; omega))
  obtain ⟨i, hc⟩ : ∃ i : Nat, (way / 6 % (zs.length : Int)) = (i : Int) := ⟨_, (Int.toNat_of_nonneg c0).symm⟩
  have hi : i < hs.length := by (clear c0 gp gl hul; omega)
  have him : i < mss.length := by (clear hi c0 gp gl hml hul; omega)
  have hds := List.getElem?_eq_getElem hi
  have hms := List.getElem?_eq_getElem him
  have hdm := List.getElem_mem hi
  generalize hs[i] = ds at hds hdm
  generalize mss[i] = ms at hms
  have sh := ok.here i ds ms hds hms
  have dl := g.lens ds hdm
  have hml2 := sh.len
  obtain ⟨ms', vm, e1, e2, ham⟩ := hB.item (k := (i : Int)) (by (clear hml2 dl hms hds him hi c1 gp gl hml hzl hul; omega)) (by (clear hml2 dl hms hds him hi c0 gp gl hml hul; omega))
  rw [Int.toNat_natCast, hms] at e1
  cases e1
  obtain ⟨ma, rfl, xs, hx1, hx2⟩ := At_frs ham
  have hxl := hx2.len
  refine ⟨_, rfl, _, rfl, r, zs, _, _, rfl, rfl, hR, (show atI zs (way / 6 % (zs.length : Int)) = some (.ref ma) by rw [hc]; exact e2), ma, xs, rfl, .inl hx1, fun P' hP => ?_⟩
  have sP := same_new hP (.lst xs)
  have hP1 : (upd H P' (.lst xs)) P' = some (.lst xs) := upd_same
  have hx3 := hx2.same sP
  generalize upd H P' (.lst xs) = G at sP hP1 hx3
  refine ⟨_, rfl, a, ns, _, rfl, sP.seq hS, by decide, _, rfl, _, _, rfl, .inl (SqL.of hP1), _, _, rfl, rfl, by show (0 : Int) < (xs.length : Int); (clear hP1 hP e2 hms hds him hi hc c1 c0 gp gl hml hzl hul; omega), ?_⟩
  have j0 : 0 ≤ (ns.getD (12 : Int).toNat 0 % (xs.length : Int)) := Int.emod_nonneg _ (show (xs.length : Int) ≠ 0 by (clear hP1 hP e2 hms hds him hi hc c1 c0 gp gl hml hzl hul; omega))
  have j1 : (ns.getD (12 : Int).toNat 0 % (xs.length : Int)) < (xs.length : Int) := Int.emod_lt_of_pos _ (show (0 : Int) < (xs.length : Int) by (clear j0 hP1 hP e2 hms hds him hi hc c1 c0 gp gl hml hzl hul; omega))
  obtain ⟨j, hd⟩ : ∃ j : Nat, (ns.getD (12 : Int).toNat 0 % (xs.length : Int)) = (j : Int) := ⟨_, (Int.toNat_of_nonneg j0).symm⟩
  have ixj : ixN xs.length (ns.getD (12 : Int).toNat 0 % (xs.length : Int)) = some j := by rw [ixN_pos j0 j1, hd, Int.toNat_natCast]
  have hj : j < xs.length := by (clear ixj j0 hP1 hP hxl e2 hml2 dl hms hds him hi hc c1 c0 gp gl hml hzl hul; omega)
  have cu : cutV zs none (some (way / 6 % (zs.length : Int))) = zs.take i := by rw [hc, cutV_to (by (clear hj ixj hd j1 j0 hP1 hP hxl e2 hml2 dl hms hds him hi c1 gp gl hml hzl hul; omega)), Int.toNat_natCast]
  have cd : cutV zs (some ((way / 6 % (zs.length : Int)) + 1)) none = zs.drop (i + 1) := by rw [hc, cutV_from (by (clear cu hj ixj hd j1 j0 hP1 hP hxl e2 hml2 dl hms hds him hi c1 gp gl hml hzl hul; omega))]; congr 1
  have cf : cutV zs (some (way / 6 % (zs.length : Int))) none = zs.drop i := by rw [hc, cutV_from (by (clear cd cu hj ixj hd j1 j0 hP1 hP hxl e2 hml2 dl hms hds him hi c1 gp gl hml hzl hul; omega)), Int.toNat_natCast]
  have lt := List.length_take (l := zs) (i := i)
  have ld := List.length_drop (l := zs) (i := i + 1)
  have lf := List.length_drop (l := zs) (i := i)
  have fin : ∀ (G' : Hp) (l : Addr) (ms' : List Rat) (ws : List V), Same H G' → SqL K G' l (cutV zs none (some (way / 6 % (zs.length : Int))) ++ [.ref P'] ++ cutV zs (some ((way / 6 % (zs.length : Int)) + 1)) none) → SqL K G' P' ws → Ats K G' (ms'.map frD) ws → (∀ q ∈ ms', Sm 60 q) → ms'.length ≤ 20 → shB ds.length ms' = false → Q (.ref l) G' := fun G' l ms' ws u hl hPw hAw z' l' bad => by
    rw [cu, cd] at hl
    refine q l G' _ (mss.take i ++ [ms'] ++ mss.drop (i + 1)) u hl ?_ ?_ (mixB_no hds (put_at him) bad)
    · rw [List.map_append, List.map_append, List.map_take, List.map_drop]
      exact (((hB.same u).take i).snoc (frs_at hPw hAw)).append ((hB.same u).drop (i + 1))
    · refine mz.of (ms := ms') ?_ (fun x hx => ?_) l' z'
      · rw [List.length_append, List.length_append, List.length_take, List.length_drop, List.length_singleton]; (clear bad l' lf ld lt cf cd cu hj ixj hd j1 j0 hP1 hP hxl e2 hml2 dl hms hds him hi c0 hul; omega)
      · rcases List.mem_append.mp hx with z | z
        · rcases List.mem_append.mp z with z | z
          · exact .inl (List.mem_of_mem_take z)
          · exact .inr (List.mem_singleton.mp z)
        · exact .inl (List.mem_of_mem_drop z)
  have z40 : ∀ q ∈ ms, Sm 60 q := fun q hq => (sh.sm q hq).mono (by decide)
  have hatJ : ∀ k : Nat, k < xs.length → ∃ (p : Addr) (y : Rat), ms[k]? = some y ∧ xs[k]? = some (.ref p) ∧ FracT K G p y := fun k hk => by
    obtain ⟨y, p, hy, e, f⟩ := hx3.fr (List.getElem?_eq_getElem hk)
    exact ⟨p, y, hy, by rw [List.getElem?_eq_getElem hk, e], f⟩
  refine ⟨_, rfl, _, _, rfl, rfl, (by decide : (0 : Int) < 6), rfl, _, rfl, ite2 (fun _ => ?_) (fun _ => ?_)⟩
  · obtain ⟨pj, y, hy, ej, fj⟩ := hatJ j hj
    have ym := List.mem_of_getElem? hy
    refine ⟨_, rfl, _, rfl, P', xs, _, _, rfl, rfl, SqL.of hP1, (show atI xs (ns.getD (12 : Int).toNat 0 % (xs.length : Int)) = some (.ref pj) by rw [hd]; exact atI_nat ej), pj, _, rfl, fj, rfl, _, _, rfl, _, _, rfl, rfl, ?_⟩
    refine ⟨_, rfl, _, rfl, _, _, rfl, rfl, .of_left (by decide), _, _, rfl, rfl, _, rfl, small (by show 2 ≤ 1000; decide), fun t ht => ?_⟩
    have st := same_new ht (.tup [.int (y.num - 2 * (y.den : Int)), .int (y.den : Int)])
    have ft : FracT K (upd G t (.tup [.int (y.num - 2 * (y.den : Int)), .int (y.den : Int)])) t (shiftR y (-2)) := by
      have e : y.num - 2 * (y.den : Int) = y.num + -2 * (y.den : Int) := by (clear ht ej hy lf ld lt cf cd cu hj ixj hd j1 j0 hP1 hP hxl e2 hml2 dl hms hds him hi hc c1 c0 gp gl hml hzl hul; omega)
      show SqT K _ t [.int (y.num + -2 * (y.den : Int)), .int (y.den : Int)]
      rw [← e]
      exact sqT_new
    have hP2 := st _ _ hP1
    refine ⟨_, rfl, _, rfl, P', xs, _, j, rfl, rfl, hP2, ixj, ?_⟩
    have hA4 : Ats K (upd (upd G t (.tup [.int (y.num - 2 * (y.den : Int)), .int (y.den : Int)])) P' (.lst (xs.set j (.ref t)))) ((ms.set j (shiftR y (-2))).map frD) (xs.set j (.ref t)) := Ats.setAt j ((hx3.same st).frUpd hP2) ((FracT.at ft).frUpd hP2)
    have u4 : Same H (upd (upd G t (.tup [.int (y.num - 2 * (y.den : Int)), .int (y.den : Int)])) P' (.lst (xs.set j (.ref t)))) := same_upd (sP.trans st) hP
    have hP4 : (upd (upd G t (.tup [.int (y.num - 2 * (y.den : Int)), .int (y.den : Int)])) P' (.lst (xs.set j (.ref t)))) P' = some (.lst (xs.set j (.ref t))) := upd_same
    generalize upd (upd G t (.tup [.int (y.num - 2 * (y.den : Int)), .int (y.den : Int)])) P' (.lst (xs.set j (.ref t))) = G4 at hA4 u4 hP4
    have z4 : ∀ q ∈ ms.set j (shiftR y (-2)), Sm 60 q := fun q hq => by
      rcases set_mem2 hq with e | e
      · exact z40 q e
      · rw [e]; exact shift_sm (sh.sm y ym) (by decide)
    have neg : shiftR y (-2) < 0 := shift_neg (by rw [← sh.one]; exact le_rsum sh.pos y ym)
    have jm : j < ms.length := by (clear neg hP4 hP2 ht ej hy lf ld lt cf cd cu hj ixj j0 hP1 hP e2 hml2 dl hms hds him hi hc c1 c0 gp gl hml hzl hul; omega)
    refine ⟨_, rfl, _, _, rfl, rfl, _, rfl, ite2 (fun cc => ?_) (fun _ => ?_)⟩
    · have jp : 0 < (ns.getD (12 : Int).toNat 0 % (xs.length : Int)) := of_decide_eq_true cc
      obtain ⟨k, rfl⟩ : ∃ k : Nat, j = k + 1 := ⟨j - 1, by (clear cc jm neg hP4 hP2 ht ej hy lf ld lt cf cd cu hj ixj j1 j0 hP1 hP hxl e2 hml2 dl hms hds him hi hc c1 c0 gp gl hml hzl hul; omega)⟩
      have ek : (ns.getD (12 : Int).toNat 0 % (xs.length : Int)) - 1 = (k : Int) := by (clear jm hP4 ej hy hj ixj jp cc neg hP2 ht lf ld lt cf cd cu j1 j0 hP1 hP hxl e2 hml2 dl hms hds him hi hc c1 c0 gp gl hml hzl hul; omega)
      obtain ⟨v, pk, hv, ev, fk⟩ := hA4.fr (List.getElem?_eq_getElem (show k < (xs.set (k + 1) (.ref t)).length by rw [List.length_set]; (clear ek jm hP4 ej hy hj ixj jp cc neg hP2 ht lf ld lt cf cd cu j0 hP1 hP hxl e2 hml2 dl hms hds him hi hc c1 c0 gp gl hml hzl hul; omega)))
      have evk : (xs.set (k + 1) (.ref t))[k]? = some (.ref pk) := by rw [List.getElem?_eq_getElem (show k < (xs.set (k + 1) (.ref t)).length by rw [List.length_set]; (clear ev hv ek jm hP4 ej hy hj ixj jp cc neg hP2 ht lf ld lt cf cd cu j0 hP1 hP hxl e2 hml2 dl hms hds him hi hc c1 c0 gp gl hml hzl hul; omega)), ev]
      have hvk : ms[k]? = some v := by rw [← hv, List.getElem?_set_ne (by (clear evk ev hv ek jm hP4 ej hy hj ixj hd jp cc neg hP2 ht lf ld lt cf cd cu j1 j0 hP1 hP hxl e2 hml2 dl hms hds him hi hc c1 c0 gp gl hml hzl hul; omega))]
      refine ⟨_, rfl, _, rfl, _, _, rfl, rfl, P', _, _, _, rfl, rfl, SqL.of hP4, (show atI _ ((ns.getD (12 : Int).toNat 0 % (xs.length : Int)) - 1) = some (.ref pk) by rw [ek]; exact atI_nat evk), pk, _, rfl, fk, rfl, _, _, rfl, _, _, rfl, rfl, ?_⟩
      refine ⟨_, rfl, _, rfl, _, _, rfl, rfl, .of_left (by decide), _, _, rfl, rfl, _, rfl, small (by show 2 ≤ 1000; decide), fun t5 ht5 => ?_⟩
      have st5 := same_new ht5 (.tup [.int (v.num + 2 * (v.den : Int)), .int (v.den : Int)])
      have ft5 : FracT K (upd G4 t5 (.tup [.int (v.num + 2 * (v.den : Int)), .int (v.den : Int)])) t5 (shiftR v 2) := sqT_new
      have hP5 := st5 _ _ hP4
      refine ⟨_, rfl, _, rfl, _, _, rfl, rfl, P', _, _, k, rfl, rfl, hP5, (show ixN _ ((ns.getD (12 : Int).toNat 0 % (xs.length : Int)) - 1) = some k by rw [ek, ixN_pos (by (clear hP5 ht5 hvk evk ev hv ek jm hP4 ej hy hj ixj cc neg hP2 ht lf ld lt cf cd cu j1 j0 hP1 hP hxl e2 hml2 dl hms hds him hi hc c1 c0 gp gl hml hzl hul; omega)) (by rw [List.length_set]; (clear hP5 ht5 hvk evk ev hv ek jm hP4 ej hy hj ixj jp cc neg hP2 ht lf ld lt cf cd cu j0 hP1 hP hxl e2 hml2 dl hms hds him hi hc c1 c0 gp gl hml hzl hul; omega)), Int.toNat_natCast]), ?_⟩
      have hA6 := Ats.setAt k ((hA4.same st5).frUpd (zs := (xs.set (k + 1) (.ref t)).set k (.ref t5)) hP5) ((FracT.at ft5).frUpd (zs := (xs.set (k + 1) (.ref t)).set k (.ref t5)) hP5)
      have u6 : Same H (upd (upd G4 t5 (.tup [.int (v.num + 2 * (v.den : Int)), .int (v.den : Int)])) P' (.lst ((xs.set (k + 1) (.ref t)).set k (.ref t5)))) := same_upd (u4.trans st5) hP
      have hP6 : (upd (upd G4 t5 (.tup [.int (v.num + 2 * (v.den : Int)), .int (v.den : Int)])) P' (.lst ((xs.set (k + 1) (.ref t)).set k (.ref t5)))) P' = some (.lst ((xs.set (k + 1) (.ref t)).set k (.ref t5))) := upd_same
      generalize upd (upd G4 t5 (.tup [.int (v.num + 2 * (v.den : Int)), .int (v.den : Int)])) P' (.lst ((xs.set (k + 1) (.ref t)).set k (.ref t5))) = G6 at hA6 u6 hP6
      have bad : shB ds.length ((ms.set (k + 1) (shiftR y (-2))).set k (shiftR v 2)) = false := shB_neg (List.mem_of_getElem? (i := k + 1) (by rw [List.getElem?_set_ne (by (clear hP6 hP5 ht5 hvk evk ev hv ek jm hP4 ej hy hj ixj hd jp cc neg hP2 ht lf ld lt cf cd cu j1 j0 hP1 hP hxl e2 hml2 dl hms hds him hi hc c1 c0 gp gl hml hzl hul; omega)), List.getElem?_set_self jm])) neg
      have z6 : ∀ q ∈ (ms.set (k + 1) (shiftR y (-2))).set k (shiftR v 2), Sm 60 q := fun q hq => by
        rcases set_mem2 hq with e | e
        · exact z4 q e
        · rw [e]; exact shift_sm (sh.sm v (List.mem_of_getElem? hvk)) (by decide)
      have l6 : ((ms.set (k + 1) (shiftR y (-2))).set k (shiftR v 2)).length ≤ 20 := by rw [List.length_set, List.length_set]; (clear bad hP6 hP5 ht5 hvk evk ev hv ek jm hP4 ej hy hj ixj hd jp cc neg hP2 ht lf ld lt cf cd cu j1 j0 hP1 hP e2 hms hds him hi hc c1 c0 gp gl hml hzl hul; omega)
      refine ⟨_, rfl, _, rfl, _, rfl, r, zs, rfl, u6.seq hR, fun m2 hm2 => ?_⟩
      have s4 := same_new hm2 (.lst (cutV zs none (some (way / 6 % (zs.length : Int)))))
      refine ⟨_, rfl, small (by show 1 ≤ 1000; decide), fun m3 hm3 => ?_⟩
      have s5 := same_new hm3 (.lst [.ref P'])
      refine ⟨m2, m3, _, _, rfl, rfl, s5.seq sqL_new, sqL_new, small (by rw [cu, lt]; show _ + 1 ≤ 1000; (clear hm3 hm2 l6 bad hP6 hP5 ht5 hvk evk ev hv ek jm hP4 ej hy hj ixj hd jp cc neg hP2 ht lf ld lt cf cd cu j1 j0 hP1 hP hxl e2 hml2 dl hms hds him hi c0 hul; omega)), fun m4 hm4 => ?_⟩
      have s6 := same_new hm4 (.lst (cutV zs none (some (way / 6 % (zs.length : Int))) ++ [.ref P']))
      have s46 := (s4.trans s5).trans s6
      refine ⟨_, rfl, _, rfl, _, _, rfl, rfl, _, rfl, r, zs, rfl, (u6.trans s46).seq hR, fun m5 hm5 => ?_⟩
      have s7 := same_new hm5 (.lst (cutV zs (some ((way / 6 % (zs.length : Int)) + 1)) none))
      refine ⟨m4, m5, _, _, rfl, rfl, s7.seq sqL_new, sqL_new, small (by rw [cu, cd, List.length_append, lt, ld]; show _ + 1 + _ ≤ 1000; (clear hm5 hm4 hm3 hm2 l6 bad hP6 hP5 ht5 hvk evk ev hv ek jm hP4 ej hy hj ixj hd jp cc neg hP2 ht lf ld lt cf cd cu j1 j0 hP1 hP hxl e2 hml2 dl hms hds him hi c0 hul; omega)), fun m6 hm6 => ?_⟩
      have s48 := (s46.trans s7).trans (same_new hm6 (.lst (cutV zs none (some (way / 6 % (zs.length : Int))) ++ [.ref P'] ++ cutV zs (some ((way / 6 % (zs.length : Int)) + 1)) none)))
      exact fin _ m6 _ _ (u6.trans s48) sqL_new (s48.seq (SqL.of hP6)) (hA6.same s48) z6 l6 bad
    · have bad : shB ds.length (ms.set j (shiftR y (-2))) = false := shB_neg (List.mem_of_getElem? (i := j) (List.getElem?_set_self jm)) neg
      have l4 : (ms.set j (shiftR y (-2))).length ≤ 20 := by rw [List.length_set]; (clear bad jm neg hP4 hP2 ht ej hy lf ld lt cf cd cu hj ixj hd j1 j0 hP1 hP e2 hms hds him hi hc c1 c0 gp gl hml hzl hul; omega)
      refine ⟨_, rfl, _, rfl, _, rfl, r, zs, rfl, u4.seq hR, fun m2 hm2 => ?_⟩
      have s4 := same_new hm2 (.lst (cutV zs none (some (way / 6 % (zs.length : Int)))))
      refine ⟨_, rfl, small (by show 1 ≤ 1000; decide), fun m3 hm3 => ?_⟩
      have s5 := same_new hm3 (.lst [.ref P'])
      refine ⟨m2, m3, _, _, rfl, rfl, s5.seq sqL_new, sqL_new, small (by rw [cu, lt]; show _ + 1 ≤ 1000; (clear hm3 hm2 l4 bad jm neg hP4 hP2 ht ej hy lf lt cf cd cu hj ixj hd j1 j0 hP1 hP hxl e2 hml2 dl hms hds him hi c0 hul; omega)), fun m4 hm4 => ?_⟩
      have s6 := same_new hm4 (.lst (cutV zs none (some (way / 6 % (zs.length : Int))) ++ [.ref P']))
      have s46 := (s4.trans s5).trans s6
      refine ⟨_, rfl, _, rfl, _, _, rfl, rfl, _, rfl, r, zs, rfl, (u4.trans s46).seq hR, fun m5 hm5 => ?_⟩
      have s7 := same_new hm5 (.lst (cutV zs (some ((way / 6 % (zs.length : Int)) + 1)) none))
      refine ⟨m4, m5, _, _, rfl, rfl, s7.seq sqL_new, sqL_new, small (by rw [cu, cd, List.length_append, lt, ld]; show _ + 1 + _ ≤ 1000; (clear hm5 hm4 hm3 hm2 l4 bad jm neg hP4 hP2 ht ej hy lf lt cf cd cu hj ixj hd j1 j0 hP1 hP hxl e2 hml2 dl hms hds him hi c0 hul; omega)), fun m6 hm6 => ?_⟩
      have s48 := (s46.trans s7).trans (same_new hm6 (.lst (cutV zs none (some (way / 6 % (zs.length : Int))) ++ [.ref P'] ++ cutV zs (some ((way / 6 % (zs.length : Int)) + 1)) none)))
      exact fin _ m6 _ _ (u4.trans s48) sqL_new (s48.seq (SqL.of hP4)) (hA4.same s48) z4 l4 bad
  refine ⟨_, rfl, _, _, rfl, rfl, (by decide : (0 : Int) < 6), rfl, _, rfl, ite2 (fun _ => ?_) (fun _ => ?_)⟩
  · refine ⟨_, rfl, _, rfl, _, rfl, a, b, ns, us, hs, (way / 6 % (zs.length : Int)), rfl, sP.seq hS, sP.seq hU, hA.same sP, g, c0, by (clear lf ld lt cf cd cu hj ixj hd j1 j0 hP1 hP hxl e2 hml2 dl hms hds him hi c0 gp gl hul; omega), fun ds2 ek => ?_⟩
    rw [hc, Int.toNat_natCast, hds] at ek
    cases ek
    obtain ⟨y, hy, y0⟩ := mn i ds ms hds hms
    obtain ⟨k0, k1⟩ := mainK_in (ns := ns) (r := (i : Int)) dl.1
    obtain ⟨k, hk⟩ : ∃ k' : Nat, mainK ns ds.length (i : Int) = (k' : Int) := ⟨_, (Int.toNat_of_nonneg k0).symm⟩
    rw [hk, Int.toNat_natCast] at hy
    have hkC : mainK ns ds.length (way / 6 % (zs.length : Int)) = (k : Int) := by rw [hc]; exact hk
    rw [hk] at k0 k1
    have ym := List.mem_of_getElem? hy
    obtain ⟨pk, y', hy', ek, fk⟩ := hatJ k (by (clear hy k0 y0 lf ld lt cf cd cu hj ixj hd j1 j0 hP1 hP e2 dl hms hds him hi hc c1 c0 gp gl hml hzl hul; omega))
    rw [hy] at hy'
    cases hy'
    have yz := sh.sm y ym
    have dp := den_pos y
    refine ⟨_, rfl, _, rfl, P', xs, _, _, rfl, rfl, SqL.of hP1, (show atI xs (mainK ns ds.length (way / 6 % (zs.length : Int))) = some (.ref pk) by rw [hkC]; exact atI_nat ek), pk, _, _, _, rfl, rfl, fk, at0, _, _, rfl, rfl, .of_left (by decide), _, rfl, _, rfl, P', xs, _, _, rfl, rfl, SqL.of hP1, (show atI xs (mainK ns ds.length (way / 6 % (zs.length : Int))) = some (.ref pk) by rw [hkC]; exact atI_nat ek), pk, _, _, _, rfl, rfl, fk, at1, _, _, rfl, dp, bits_mono yz.den (by decide), fun t G3 s3 f3 => ?_⟩
    rw [twice_div] at f3
    have hP3 := s3 _ _ hP1
    refine ⟨_, rfl, _, rfl, P', xs, _, k, rfl, rfl, hP3, (show ixN xs.length (mainK ns ds.length (way / 6 % (zs.length : Int))) = some k by rw [hkC, ixN_pos k0 (by (clear hP3 dp ek hy k0 y0 lf ld lt cf cd cu hj ixj hd j1 j0 hP1 hP e2 dl hms hds him hi hc c1 c0 gp gl hml hzl hul; omega)), Int.toNat_natCast]), ?_⟩
    have hA4 : Ats K (upd G3 P' (.lst (xs.set k (.ref t)))) ((ms.set k (y + y)).map frD) (xs.set k (.ref t)) := Ats.setAt k ((hx3.same s3).frUpd hP3) ((FracT.at f3).frUpd hP3)
    have u4 : Same H (upd G3 P' (.lst (xs.set k (.ref t)))) := same_upd (sP.trans s3) hP
    have hP4 : (upd G3 P' (.lst (xs.set k (.ref t)))) P' = some (.lst (xs.set k (.ref t))) := upd_same
    generalize upd G3 P' (.lst (xs.set k (.ref t))) = G4 at hA4 u4 hP4
    have z4 : ∀ q ∈ ms.set k (y + y), Sm 60 q := fun q hq => by
      rcases set_mem2 hq with e | e
      · exact z40 q e
      · rw [e, ← twice_div]
        exact (Sm.divInt (n := 42) (by (clear e hP4 hP3 ek hkC hk hy k0 k1 y0 lf ld lt cf cd cu hj ixj hd j1 j0 hP1 hP hxl e2 hml2 dl hms hds him hi hc c1 c0 gp gl hml hzl hul; omega)) (CH.bits_mul (show bits 2 ≤ 2 by decide) yz.num) (bits_mono yz.den (by decide))).mono (by decide)
    have bad : shB ds.length (ms.set k (y + y)) = false := shB_sum (by
      rw [rsum_set hy, sh.one]
      grind)
    have l4 : (ms.set k (y + y)).length ≤ 20 := by rw [List.length_set]; (clear bad hP4 hP3 dp ek hkC hk hy k0 k1 y0 lf ld lt cf cd cu hj ixj hd j1 j0 hP1 hP e2 hms hds him hi hc c1 c0 gp gl hml hzl hul; omega)
    refine ⟨_, rfl, _, rfl, _, rfl, r, zs, rfl, u4.seq hR, fun m2 hm2 => ?_⟩
    have s4 := same_new hm2 (.lst (cutV zs none (some (way / 6 % (zs.length : Int)))))
    refine ⟨_, rfl, small (by show 1 ≤ 1000; decide), fun m3 hm3 => ?_⟩
    have s5 := same_new hm3 (.lst [.ref P'])
    refine ⟨m2, m3, _, _, rfl, rfl, s5.seq sqL_new, sqL_new, small (by rw [cu, lt]; show _ + 1 ≤ 1000; (clear hm3 hm2 l4 bad hP4 hP3 dp ek hkC hk hy k0 k1 y0 lf lt cf cd cu hj ixj hd j1 j0 hP1 hP hxl e2 hml2 dl hms hds him hi c0 hul; omega)), fun m4 hm4 => ?_⟩
    have s6 := same_new hm4 (.lst (cutV zs none (some (way / 6 % (zs.length : Int))) ++ [.ref P']))
    have s46 := (s4.trans s5).trans s6
    refine ⟨_, rfl, _, rfl, _, _, rfl, rfl, _, rfl, r, zs, rfl, (u4.trans s46).seq hR, fun m5 hm5 => ?_⟩
    have s7 := same_new hm5 (.lst (cutV zs (some ((way / 6 % (zs.length : Int)) + 1)) none))
    refine ⟨m4, m5, _, _, rfl, rfl, s7.seq sqL_new, sqL_new, small (by rw [cu, cd, List.length_append, lt, ld]; show _ + 1 + _ ≤ 1000; (clear hm5 hm4 hm3 hm2 l4 bad hP4 hP3 dp ek hkC hk hy k0 k1 y0 lf lt cf cd cu hj ixj hd j1 j0 hP1 hP hxl e2 hml2 dl hms hds him hi c0 hul; omega)), fun m6 hm6 => ?_⟩
    have s48 := (s46.trans s7).trans (same_new hm6 (.lst (cutV zs none (some (way / 6 % (zs.length : Int))) ++ [.ref P'] ++ cutV zs (some ((way / 6 % (zs.length : Int)) + 1)) none)))
    exact fin _ m6 _ _ (u4.trans s48) sqL_new (s48.seq (SqL.of hP4)) (hA4.same s48) z4 l4 bad
  refine ⟨_, rfl, _, _, rfl, rfl, (by decide : (0 : Int) < 6), rfl, _, rfl, ite2 (fun _ => ?_) (fun _ => ?_)⟩
  · refine ⟨_, rfl, .inl ⟨rfl, _, SqL.of hP1⟩, small (by show 2 ≤ 1000; decide), fun t ht => ?_⟩
    have st := same_new ht (.tup [.int 0, .int 1])
    have ft : FracT K (upd G t (.tup [.int 0, .int 1])) t 0 := sqT_new
    have hP3 := st _ _ hP1
    refine ⟨P', xs, _, rfl, rfl, hP3, small1000 (by (clear hP3 ht lf ld lt cf cd cu hj ixj hd j1 j0 hP1 hP e2 hms hds him hi hc c1 c0 gp gl hml hzl hul; omega)), ?_⟩
    have hA4 : Ats K (upd (upd G t (.tup [.int 0, .int 1])) P' (.lst (xs ++ [.ref t]))) ((ms ++ [0]).map frD) (xs ++ [.ref t]) := by
      rw [List.map_append]
      exact ((hx3.same st).frUpd hP3).snoc ((FracT.at ft).frUpd hP3)
    have u4 : Same H (upd (upd G t (.tup [.int 0, .int 1])) P' (.lst (xs ++ [.ref t]))) := same_upd (sP.trans st) hP
    have hP4 : (upd (upd G t (.tup [.int 0, .int 1])) P' (.lst (xs ++ [.ref t]))) P' = some (.lst (xs ++ [.ref t])) := upd_same
    generalize upd (upd G t (.tup [.int 0, .int 1])) P' (.lst (xs ++ [.ref t])) = G4 at hA4 u4 hP4
    have z4 : ∀ q ∈ ms ++ [0], Sm 60 q := fun q hq => by
      rcases List.mem_append.mp hq with e | e
      · exact z40 q e
      · rw [List.mem_singleton.mp e]; exact Sm0.mono (by decide)
    have l4 : (ms ++ [0]).length ≤ 20 := by rw [List.length_append]; show _ + 1 ≤ 20; (clear hP4 hP3 ht lf ld lt cf cd cu hj ixj hd j1 j0 hP1 hP e2 hms hds him hi hc c1 c0 gp gl hml hzl hul; omega)
    have bad : shB ds.length (ms ++ [0]) = false := shB_len (by rw [List.length_append]; show _ + 1 ≠ _; (clear l4 hP4 hP3 ht lf ld lt cf cd cu hj ixj hd j1 j0 hP1 hP hxl e2 dl hms hds him hi hc c1 c0 gp gl hml hzl hul; omega))
    refine ⟨_, rfl, _, rfl, _, rfl, r, zs, rfl, u4.seq hR, fun m2 hm2 => ?_⟩
    have s4 := same_new hm2 (.lst (cutV zs none (some (way / 6 % (zs.length : Int)))))
    refine ⟨_, rfl, small (by show 1 ≤ 1000; decide), fun m3 hm3 => ?_⟩
    have s5 := same_new hm3 (.lst [.ref P'])
    refine ⟨m2, m3, _, _, rfl, rfl, s5.seq sqL_new, sqL_new, small (by rw [cu, lt]; show _ + 1 ≤ 1000; (clear hm3 hm2 bad l4 hP4 hP3 ht lf lt cf cd cu hj ixj hd j1 j0 hP1 hP hxl e2 hml2 dl hms hds him hi c0 hul; omega)), fun m4 hm4 => ?_⟩
    have s6 := same_new hm4 (.lst (cutV zs none (some (way / 6 % (zs.length : Int))) ++ [.ref P']))
    have s46 := (s4.trans s5).trans s6
    refine ⟨_, rfl, _, rfl, _, _, rfl, rfl, _, rfl, r, zs, rfl, (u4.trans s46).seq hR, fun m5 hm5 => ?_⟩
    have s7 := same_new hm5 (.lst (cutV zs (some ((way / 6 % (zs.length : Int)) + 1)) none))
    refine ⟨m4, m5, _, _, rfl, rfl, s7.seq sqL_new, sqL_new, small (by rw [cu, cd, List.length_append, lt, ld]; show _ + 1 + _ ≤ 1000; (clear hm5 hm4 hm3 hm2 bad l4 hP4 hP3 ht lf lt cf cd cu hj ixj hd j1 j0 hP1 hP hxl e2 hml2 dl hms hds him hi c0 hul; omega)), fun m6 hm6 => ?_⟩
    have s48 := (s46.trans s7).trans (same_new hm6 (.lst (cutV zs none (some (way / 6 % (zs.length : Int))) ++ [.ref P'] ++ cutV zs (some ((way / 6 % (zs.length : Int)) + 1)) none)))
    exact fin _ m6 _ _ (u4.trans s48) sqL_new (s48.seq (SqL.of hP4)) (hA4.same s48) z4 l4 bad
  refine ⟨_, rfl, _, _, rfl, rfl, (by decide : (0 : Int) < 6), rfl, _, rfl, ite2 (fun _ => ?_) (fun _ => ?_)⟩
  · refine ⟨_, rfl, .inl ⟨rfl, _, SqL.of hP1⟩, _, rfl, P', xs, _, j, _, rfl, rfl, hP1, (show -(2 ^ 63) ≤ (ns.getD (12 : Int).toNat 0 % (xs.length : Int)) from Int.le_trans (by decide) j0), (show (ns.getD (12 : Int).toNat 0 % (xs.length : Int)) < 2 ^ 63 from Int.lt_trans (show (ns.getD (12 : Int).toNat 0 % (xs.length : Int)) < 1000 by (clear lf ld lt cf cd cu hj ixj j0 hP1 hP e2 hms hds him hi hc c1 c0 gp gl hml hzl hul; omega)) (by decide)), (show seqIndex? (ns.getD (12 : Int).toNat 0 % (xs.length : Int)) xs.length = some j from (ixN_seq ixj).1), List.getElem?_eq_getElem hj, ?_⟩
    have hA4 : Ats K (upd G P' (.lst (xs.eraseIdx j))) ((ms.eraseIdx j).map frD) (xs.eraseIdx j) := by
      have h := hx3.frUpd (zs := xs.eraseIdx j) hP1
      rw [List.eraseIdx_eq_take_drop_succ, List.eraseIdx_eq_take_drop_succ, List.map_append, List.map_take, List.map_drop] at *
      exact (h.take j).append (h.drop (j + 1))
    have u4 : Same H (upd G P' (.lst (xs.eraseIdx j))) := same_upd sP hP
    have hP4 : (upd G P' (.lst (xs.eraseIdx j))) P' = some (.lst (xs.eraseIdx j)) := upd_same
    generalize upd G P' (.lst (xs.eraseIdx j)) = G4 at hA4 u4 hP4
    have z4 : ∀ q ∈ ms.eraseIdx j, Sm 60 q := fun q hq => z40 q (List.mem_of_mem_eraseIdx hq)
    have le := List.length_eraseIdx_of_lt (show j < ms.length by (clear hP4 lf ld lt cf cd cu hj ixj j0 hP1 hP e2 hml2 dl hms hds him hi hc c1 c0 gp gl hml hzl hul; omega))
    have l4 : (ms.eraseIdx j).length ≤ 20 := by (clear hP4 lf ld lt cf cd cu hj ixj hd j1 j0 hP1 hP e2 hms hds him hi hc c1 c0 gp gl hml hzl hul; omega)
    have bad : shB ds.length (ms.eraseIdx j) = false := shB_len (by (clear l4 hP4 lf ld lt cf cd cu hj ixj hd j1 j0 hP1 hP e2 hms hds him hi hc c1 c0 gp gl hml hzl hul; omega))
    refine ⟨_, rfl, _, rfl, _, rfl, r, zs, rfl, u4.seq hR, fun m2 hm2 => ?_⟩
    have s4 := same_new hm2 (.lst (cutV zs none (some (way / 6 % (zs.length : Int)))))
    refine ⟨_, rfl, small (by show 1 ≤ 1000; decide), fun m3 hm3 => ?_⟩
    have s5 := same_new hm3 (.lst [.ref P'])
    refine ⟨m2, m3, _, _, rfl, rfl, s5.seq sqL_new, sqL_new, small (by rw [cu, lt]; show _ + 1 ≤ 1000; (clear hm3 hm2 bad l4 le hP4 lf lt cf cd cu hj ixj hd j1 j0 hP1 hP e2 hms hds him hi c0 hul; omega)), fun m4 hm4 => ?_⟩
    have s6 := same_new hm4 (.lst (cutV zs none (some (way / 6 % (zs.length : Int))) ++ [.ref P']))
    have s46 := (s4.trans s5).trans s6
    refine ⟨_, rfl, _, rfl, _, _, rfl, rfl, _, rfl, r, zs, rfl, (u4.trans s46).seq hR, fun m5 hm5 => ?_⟩
    have s7 := same_new hm5 (.lst (cutV zs (some ((way / 6 % (zs.length : Int)) + 1)) none))
    refine ⟨m4, m5, _, _, rfl, rfl, s7.seq sqL_new, sqL_new, small (by rw [cu, cd, List.length_append, lt, ld]; show _ + 1 + _ ≤ 1000; (clear hm5 hm4 hm3 hm2 bad l4 le hP4 lf lt cf cd cu hj ixj hd j1 j0 hP1 hP e2 hms hds him hi c0 hul; omega)), fun m6 hm6 => ?_⟩
    have s48 := (s46.trans s7).trans (same_new hm6 (.lst (cutV zs none (some (way / 6 % (zs.length : Int))) ++ [.ref P'] ++ cutV zs (some ((way / 6 % (zs.length : Int)) + 1)) none)))
    exact fin _ m6 _ _ (u4.trans s48) sqL_new (s48.seq (SqL.of hP4)) (hA4.same s48) z4 l4 bad
  refine ⟨_, rfl, _, _, rfl, rfl, (by decide : (0 : Int) < 6), rfl, _, rfl, ite2 (fun _ => ?_) (fun _ => ?_)⟩
  · refine ⟨_, rfl, _, rfl, _, rfl, r, zs, rfl, sP.seq hR, fun l2 hl2 => ?_⟩
    have s4 := same_new hl2 (.lst (cutV zs none (some (way / 6 % (zs.length : Int)))))
    refine ⟨small (by show 2 ≤ 1000; decide), fun t ht => ⟨small (by show 1 ≤ 1000; decide), fun l0 hl0 => ⟨small (by show 1 ≤ 1000; decide), fun l3 hl3 => ?_⟩⟩⟩
    have st := same_new ht (.tup [.int 1, .int 1])
    have s0 := same_new hl0 (.lst [.ref t])
    have s5 := same_new hl3 (.lst [.ref l0])
    have ft := frac_one ((s0.trans s5).tup (sqT_new (K := K) (H := upd G l2 (.lst (cutV zs none (some (way / 6 % (zs.length : Int)))))) (p := t) (xs := [.int 1, .int 1])))
    have hl0' := s5.seq (sqL_new (K := K) (H := upd (upd G l2 (.lst (cutV zs none (some (way / 6 % (zs.length : Int)))))) t (.tup [.int 1, .int 1])) (p := l0) (xs := [.ref t]))
    have st5 := (st.trans s0).trans s5
    refine ⟨l2, l3, _, _, rfl, rfl, st5.seq sqL_new, sqL_new, small (by rw [cu, lt]; show _ + 1 ≤ 1000; (clear hl3 hl0 ht hl2 lf lt cf cd cu hj ixj hd j1 j0 hP1 hP hxl e2 hml2 dl hms hds him hi c0 hul; omega)), fun l4 hl4 => ?_⟩
    have s6 := same_new hl4 (.lst (cutV zs none (some (way / 6 % (zs.length : Int))) ++ [.ref l0]))
    have s46 := (s4.trans st5).trans s6
    refine ⟨_, rfl, _, rfl, _, rfl, r, zs, rfl, (sP.trans s46).seq hR, fun l5 hl5 => ?_⟩
    have s7 := same_new hl5 (.lst (cutV zs (some (way / 6 % (zs.length : Int))) none))
    refine ⟨l4, l5, _, _, rfl, rfl, s7.seq sqL_new, sqL_new, small (by rw [cu, cf, List.length_append, lt, lf]; show _ + 1 + _ ≤ 1000; (clear hl5 hl4 hl3 hl0 ht hl2 lf lt cf cd cu hj ixj hd j1 j0 hP1 hP hxl e2 hml2 dl hms hds him hi c0 hul; omega)), fun l6 hl6 => ?_⟩
    have s8 := same_new hl6 (.lst (cutV zs none (some (way / 6 % (zs.length : Int))) ++ [.ref l0] ++ cutV zs (some (way / 6 % (zs.length : Int))) none))
    have s68 := (s6.trans s7).trans s8
    have u8 := sP.trans ((s46.trans s7).trans s8)
    refine q l6 _ _ (mss.take i ++ [[1]] ++ mss.drop i) u8 sqL_new ?_ ?_ (mixB_len ?_)
    · rw [cu, cf, List.map_append, List.map_append, List.map_take, List.map_drop]
      have h8 := hB.same u8
      rw [cu, cf] at h8
      refine ((h8.take i).snoc ?_).append (h8.drop i)
      have o : At K _ (frsD [1]) (.ref l0) := frs_at (s68.seq hl0') (by simp only [List.map_cons, List.map_nil, Ats]; exact ⟨_, [], rfl, FracT.at (s68.tup ft), rfl⟩)
      rw [cu, cf] at o
      exact o
    · refine mz.of (ms := [1]) ?_ (fun x hx => ?_) (by decide) (fun q hq => ?_)
      · rw [List.length_append, List.length_append, List.length_take, List.length_drop, List.length_singleton]; (clear hl6 hl5 hl4 hl3 hl0 ht hl2 lf ld lt cf cd cu hj ixj hd j1 j0 hP1 hP hxl e2 hml2 dl hms hds him hi c0 hul; omega)
      · rcases List.mem_append.mp hx with z | z
        · rcases List.mem_append.mp z with z | z
          · exact .inl (List.mem_of_mem_take z)
          · exact .inr (List.mem_singleton.mp z)
        · exact .inl (List.mem_of_mem_drop z)
      · rw [List.mem_singleton.mp hq]; exact ⟨by decide, by decide⟩
    · rw [List.length_append, List.length_append, List.length_take, List.length_drop, List.length_singleton]; (clear hl6 hl5 hl4 hl3 hl0 ht hl2 lf ld lt cf cd cu hj ixj hd j1 j0 hP1 hP hxl e2 hml2 dl hms hds him hi c0 gp gl hul; omega)
  · refine ⟨_, rfl, _, rfl, _, rfl, r, zs, rfl, sP.seq hR, fun l2 hl2 => ?_⟩
    have s4 := same_new hl2 (.lst (cutV zs none (some (way / 6 % (zs.length : Int)))))
    refine ⟨_, rfl, _, rfl, _, _, rfl, rfl, _, rfl, r, zs, rfl, (sP.trans s4).seq hR, fun l5 hl5 => ?_⟩
    have s7 := same_new hl5 (.lst (cutV zs (some ((way / 6 % (zs.length : Int)) + 1)) none))
    refine ⟨l2, l5, _, _, rfl, rfl, s7.seq sqL_new, sqL_new, small (by rw [cu, cd, lt, ld]; (clear hl5 hl2 lf lt cf cd cu hj ixj hd j1 j0 hP1 hP hxl e2 hml2 dl hms hds him hi c0 hul; omega)), fun l6 hl6 => ?_⟩
    have s8 := same_new hl6 (.lst (cutV zs none (some (way / 6 % (zs.length : Int))) ++ cutV zs (some ((way / 6 % (zs.length : Int)) + 1)) none))
    have u8 := sP.trans ((s4.trans s7).trans s8)
    refine q l6 _ _ (mss.take i ++ mss.drop (i + 1)) u8 sqL_new ?_ ?_ (mixB_len ?_)
    · rw [cu, cd, List.map_append, List.map_take, List.map_drop]
      have h8 := hB.same u8
      rw [cu, cd] at h8
      exact (h8.take i).append (h8.drop (i + 1))
    · refine mz.of (ms := [1]) ?_ (fun x hx => ?_) (by decide) (fun q hq => ?_)
      · rw [List.length_append, List.length_take, List.length_drop]; (clear hl6 hl5 hl2 lf ld lt cf cd cu hj ixj hd j1 j0 hP1 hP hxl e2 hml2 dl hms hds him hi c0 hul; omega)
      · rcases List.mem_append.mp hx with z | z
        · exact .inl (List.mem_of_mem_take z)
        · exact .inl (List.mem_of_mem_drop z)
      · rw [List.mem_singleton.mp hq]; exact ⟨by decide, by decide⟩
    · rw [List.length_append, List.length_take, List.length_drop]; (clear hl6 hl5 hl2 lf ld lt cf cd cu hj ixj hd j1 j0 hP1 hP hxl e2 hml2 dl hms hds him hi c0 gp gl hul; omega)
end
end Law
set_option Elab.async false
set_option linter.all false
set_option maxRecDepth 100000
set_option maxHeartbeats 4000000
local macro_rules | `(tactic| walk_at "rd") => `(tactic| repeat (first | refine ⟨_, rfl, ?_⟩ | refine ⟨_, _, rfl, rfl, ?_⟩ | refine ⟨rfl, ?_⟩ | refine ⟨_, _, _, _, rfl, rfl, by assumption, rfl, ?_⟩))
namespace Law
open PySem PySem.Spec PyProof.Rows L2 CH
section
variable {P : Program} {w : World} {K : PySem.W.Frag} {mg : Str → Option Value} {base : Heap}
noncomputable abbrev sL_copy : Stmt := top 45
theorem scL_copy : FnScope ["_law_house_here"] ["_law_house_here"] (defScope sL_copy) := ⟨rfl, rfl, rfl, by decide +kernel, rfl, by decide +kernel, by decide +kernel⟩
/-- the same house again -/
noncomputable def spCopy (K : PySem.W.Frag) : Sp := fun vs H Q _ => ∃ (v : V) (hs : List (List Door)), vs = [v] ∧ At K H (houseD hs) v ∧ HouseSm 4000 hs ∧ ∀ v' H', Same H H' → At K H' (houseD hs) v' → Q v' H'
theorem ok_copy (B : Blt mg) (T : TxtD K mg "_law_copy" sL_copy ["_law_house_here"]) : Dfn P w K mg base 1 "_law_copy" ["_law_house_here"] (spCopy K) := by
  refine T.ok scL_copy (fun vs H Q E h => ?_) (fun f cdv A outer s H vs Q E hr h => ?_)
  · obtain ⟨v, hs, rfl, _⟩ := h
    rfl
  obtain ⟨v, hs, rfl, hv, hz, q⟩ := h
  refine ⟨_, (pss_one (ps_ret (pe_comp ["_law_doors"] [] rfl (piL K (pv 0)) (fun Z nd => (pg_name (i := 0) nd rfl (Or.inl rfl))) (fun Z => pts_nil) (fun Z => (pe_comp ["_law_door"] [] rfl (piL K (pv 0)) (fun Z nd => (pg_name (i := 0) nd rfl (Or.inl rfl))) (fun Z => pts_nil) (fun Z => (pe_tup (pa_cons (pe_ix (ixT K) (pv 0) pe_int (fun _ _ => rfl)) (pa_cons (pe_callTy (lstK K) rfl B.list boot_list (pa_cons (pe_ix (ixT K) (pv 0) pe_int (fun _ _ => rfl)) pa_nil)) pa_nil))))))))), ?_⟩
  obtain ⟨a, xs, rfl, hS, hA⟩ := id hv.house
  have hlen := hA.len
  have hl := hz.len
  refine ⟨_, rfl, a, rfl, ⟨_, hS⟩, comp_list (xs := xs) (fun i ys H' => Same H H' ∧ Ats K H' ((hs.take i).map doorsD) ys) (small1000 (by omega)) ⟨Same.refl _, by simp [Ats]⟩ ?_ ?_ ?_⟩
  · rintro i ys H' hi ⟨s1, h⟩
    refine ⟨s1.seq hS, ?_⟩
    rw [h.len, List.length_take]; (clear hl; omega)
  · rintro i x ys H1 hx ⟨s1, h⟩
    obtain ⟨ds, hd, ha⟩ := (hA.same s1).gets hx
    obtain ⟨b, zs, rfl, hb, hB⟩ := ha.doors
    have hzl := hB.len
    have hm := List.mem_of_getElem? hd
    have hdl := hz.lens ds hm
    refine ⟨keep1, allT ⟨_, rfl, b, rfl, ⟨_, hb⟩, comp_list (xs := zs) (fun j us H' => Same H1 H' ∧ Ats K H' ((ds.take j).map doorD) us) (small1000 (by (clear hx hd hl hlen; omega))) ⟨Same.refl _, by simp [Ats]⟩ ?_ ?_ ?_⟩⟩
    · rintro j us H' hj ⟨s2, h2⟩
      refine ⟨s2.seq hb, ?_⟩
      rw [h2.len, List.length_take]; (clear hdl hx hd hl hlen; omega)
    · rintro j y us H2 hy ⟨s2, h2⟩
      obtain ⟨d, hd2, ha2⟩ := (hB.same s2).gets hy
      obtain ⟨p, cc, ra, rx, rfl, ht, fc, hr1, hr2⟩ := ha2.door
      refine ⟨keep1, allT ⟨_, rfl, p, _, _, _, rfl, rfl, ht, at0, _, rfl, p, _, _, _, rfl, rfl, ht, at1, ra, rx, rfl, .inl hr1, fun l hl' => ⟨small (by show 2 ≤ 1000; decide), fun t ht' => ?_⟩⟩⟩
      have sl := same_new hl' (.lst rx)
      have st := same_new ht' (.tup [.ref cc, .ref l])
      have s3 := sl.trans st
      refine ⟨s2.trans s3, ?_⟩
      rw [take_snoc hd2, List.map_append]
      exact (h2.same s3).snoc (door_at sqT_new (s3.tup fc) (st.seq sqL_new) (hr2.same s3))
    · rintro us H2 ⟨s2, h2⟩ D hD
      rw [hzl, List.take_length] at h2
      have sD := same_new hD (.lst us)
      refine ⟨s1.trans (s2.trans sD), ?_⟩
      rw [take_snoc hd, List.map_append]
      exact (h.same (s2.trans sD)).snoc (doors_at sqL_new (h2.same sD))
  · rintro ys H1 ⟨s1, h⟩ D hD
    rw [hlen, List.take_length] at h
    have sD := same_new hD (.lst ys)
    exact q _ _ (s1.trans sD) (house_at sqL_new (h.same sD))
noncomputable abbrev sL_alike : Stmt := top 40
theorem scL_alike : FnScope ["_law_found", "_law_due", "_law_k"] ["_law_found", "_law_due"] (defScope sL_alike) := ⟨rfl, rfl, rfl, by decide +kernel, rfl, by decide +kernel, by decide +kernel⟩
/-- the same data, of less than n levels -/
noncomputable def spAlike (K : PySem.W.Frag) (n : Nat) : Sp := fun vs H Q _ => ∃ (d : Dt) (x y : V), vs = [x, y] ∧ At K H d x ∧ At K H d y ∧ okD d = true ∧ dpD d < n ∧ Q (.bl true) H
theorem ok_alike0 (T : TxtD K mg "_law_alike" sL_alike ["_law_found", "_law_due"]) : Dfn P w K mg base 0 "_law_alike" ["_law_found", "_law_due"] (spAlike K 0) := by
  obtain ⟨f, fd, F, hm, hb⟩ := T.ex
  refine ⟨f, fd, hm, F.kp, hb, ⟨fun vs H Q E h => ?_, fun A outer s H args us vs Q E _ _ _ _ h => ?_⟩⟩
  · obtain ⟨d, x, y, _, _, _, _, h, _⟩ := h; (clear hm; omega)
  · obtain ⟨d, x, y, _, _, _, _, h, _⟩ := h; (clear hm; omega)
theorem ok_alike {k n : Nat} (B : Blt mg) (DLalike : Dfn P w K mg base k "_law_alike" ["_law_found", "_law_due"] (spAlike K n)) (T : TxtD K mg "_law_alike" sL_alike ["_law_found", "_law_due"]) : Dfn P w K mg base (k + 1) "_law_alike" ["_law_found", "_law_due"] (spAlike K (n + 1)) := by
  refine T.ok scL_alike (fun vs H Q E h => ?_) (fun f cdv A outer s H vs Q E hr h => ?_)
  · obtain ⟨d, x, y, rfl, _⟩ := h
    rfl
  obtain ⟨d, x, y, rfl, hx, hy, ok, dp, q⟩ := h
  refine ⟨_, (pss_cons (ps_if (pt_val (pe_callB (isiK K) (by rfl) B.isinstance boot_isinstance (pa_cons (pv 1) (pa_cons (pe_ty B.int boot_int) pa_nil))))
        (pss_one (ps_ret (pe_and (pe_callB (isiK K) (by rfl) B.isinstance boot_isinstance (pa_cons (pv 0) (pa_cons (pe_ty B.int boot_int) pa_nil))) (pe_and (pe_not (pe_callB (isiK K) (by rfl) B.isinstance boot_isinstance (pa_cons (pv 0) (pa_cons (pe_ty B.bool boot_bool) pa_nil)))) (pe_one (pe_cmpR op_eq (pv 0) (pv 1) (nomark _)))))))
        pss_nil)
      (pss_cons (ps_if (pt_val (pe_callB (isiK K) (by rfl) B.isinstance boot_isinstance (pa_cons (pv 1) (pa_cons (pe_ty B.tuple boot_tuple) pa_nil))))
        (pss_one (ps_if (pt_not (pt_val (pe_callB (isiK K) (by rfl) B.isinstance boot_isinstance (pa_cons (pv 0) (pa_cons (pe_ty B.tuple boot_tuple) pa_nil)))))
          (pss_one (ps_ret pe_bl))
          pss_nil))
        (pss_one (ps_if (pt_not (pt_val (pe_callB (isiK K) (by rfl) B.isinstance boot_isinstance (pa_cons (pv 0) (pa_cons (pe_ty B.list boot_list) pa_nil)))))
          (pss_one (ps_ret pe_bl))
          pss_nil)))
      (pss_cons (ps_if (pt_cmpR op_ne (pe_callB (lenK K) (by rfl) B.len boot_len (pa_cons (pv 0) pa_nil)) (pe_callB (lenK K) (by rfl) B.len boot_len (pa_cons (pv 1) pa_nil)) (nomark _))
        (pss_one (ps_ret pe_bl))
        pss_nil)
      (pss_cons (ps_for PassesOwn.never rfl (pi_range1 rfl B.range (pa_cons (pe_callB (lenK K) (by rfl) B.len boot_len (pa_cons (pv 1) pa_nil)) pa_nil)) (pg_name (i := 2) scL_alike.nd rfl (Or.inl rfl))
        (pss_one (ps_if (pt_not (pt_val (pe_callD DLalike hr (pa_cons (pe_ix (ixS K) (pv 0) (pv 2) (fun _ _ => rfl)) (pa_cons (pe_ix (ixS K) (pv 1) (pv 2) (fun _ _ => rfl)) pa_nil)) (Nat.le_refl _))))
          (pss_one (ps_ret pe_bl))
          pss_nil)))
      (pss_one (ps_ret pe_bl)))))), ?_⟩
  cases d with
  | int i =>
    simp only [At] at hx hy
    subst hx hy
    refine ⟨_, rfl, _, _, "int", true, rfl, rfl, rfl, _, rfl, iteT ?_⟩
    refine ⟨_, rfl, _, _, "int", true, rfl, rfl, rfl, _, rfl, iteT ?_⟩
    refine ⟨_, rfl, _, _, "int", false, rfl, rfl, rfl, _, rfl, _, rfl, iteT ?_⟩
    refine ⟨_, rfl, _, rfl, rfl, ?_⟩
    have e : Q (.bl (decide (V.int i = V.int i))) H := by rw [decide_eq_true rfl]; exact q
    exact e
  | tup ds =>
    simp only [At] at hx hy
    obtain ⟨a, xs, rfl, h1, h2⟩ := hx
    obtain ⟨b, ys, rfl, g1, g2⟩ := hy
    have hlx := h2.length
    have hly := g2.length
    simp only [okD, Bool.and_eq_true, decide_eq_true_eq] at ok
    simp only [dpD] at dp
    refine ⟨_, rfl, _, _, "tuple", false, rfl, .inl ⟨rfl, _, g1⟩, rfl, _, rfl, iteF ?_⟩
    refine ⟨_, rfl, _, _, "tuple", true, rfl, .inl ⟨rfl, _, g1⟩, rfl, _, rfl, iteT ?_⟩
    refine ⟨_, rfl, _, _, "tuple", true, rfl, .inl ⟨rfl, _, h1⟩, rfl, _, rfl, iteF ?_⟩
    refine ⟨_, rfl, _, _, rfl, .inr h1, _, rfl, _, _, rfl, .inr g1, rfl, _, rfl, ?_⟩
    rw [show (!decide (V.int (xs.length : Int) = V.int (ys.length : Int))) = false by rw [hlx, hly, decide_eq_true rfl]; rfl]
    refine iteF ?_
    refine ⟨_, rfl, _, _, rfl, .inr g1, _, rfl, by (clear dp; omega), by (clear dp; omega), for_range (fun i σ H' => H' = H ∧ ∃ o, σ = [some (.ref a), some (.ref b), o]) ⟨rfl, _, rfl⟩ ?_ ?_⟩
    · rintro i σ H' hi ⟨rfl, o, rfl⟩
      have hid : i < ds.length := by rw [← hly]; simpa using hi
      have ed := List.getElem?_eq_getElem hid
      obtain ⟨v, hv, av⟩ := h2.get ed
      obtain ⟨u, hu, au⟩ := g2.get ed
      have e0 : (0 : Int) + (i : Int) = (i : Int) := by (clear hu hv ed hi ok hly hlx dp; omega)
      have dl := dpDs_get ed
      refine ⟨_, rfl, _, rfl, .inr (.inl ⟨a, xs, _, v, rfl, rfl, h1, by rw [e0]; exact atI_nat hv, _, rfl, _, rfl, .inr (.inl ⟨b, ys, _, u, rfl, rfl, g1, by rw [e0]; exact atI_nat hu, _, v, u, rfl, av, au, okDs_get ok.2 ed, by (clear e0 hu hv ed hi ok hly hlx; omega), _, rfl, iteF ?_⟩)⟩)⟩
      exact ⟨rfl, _, rfl⟩
    · rintro σ H' ⟨rfl, o, rfl⟩
      exact q
  | lst ds =>
    simp only [At] at hx hy
    obtain ⟨a, xs, rfl, h1, h2⟩ := hx
    obtain ⟨b, ys, rfl, g1, g2⟩ := hy
    have hlx := h2.length
    have hly := g2.length
    simp only [okD, Bool.and_eq_true, decide_eq_true_eq] at ok
    simp only [dpD] at dp
    refine ⟨_, rfl, _, _, "list", false, rfl, .inr (.inl ⟨rfl, _, g1⟩), rfl, _, rfl, iteF ?_⟩
    refine ⟨_, rfl, _, _, "list", false, rfl, .inr (.inl ⟨rfl, _, g1⟩), rfl, _, rfl, iteF ?_⟩
    refine ⟨_, rfl, _, _, "list", true, rfl, .inr (.inl ⟨rfl, _, h1⟩), rfl, _, rfl, iteF ?_⟩
    refine ⟨_, rfl, _, _, rfl, .inl h1, _, rfl, _, _, rfl, .inl g1, rfl, _, rfl, ?_⟩
    rw [show (!decide (V.int (xs.length : Int) = V.int (ys.length : Int))) = false by rw [hlx, hly, decide_eq_true rfl]; rfl]
    refine iteF ?_
    refine ⟨_, rfl, _, _, rfl, .inl g1, _, rfl, by (clear dp; omega), by (clear dp; omega), for_range (fun i σ H' => H' = H ∧ ∃ o, σ = [some (.ref a), some (.ref b), o]) ⟨rfl, _, rfl⟩ ?_ ?_⟩
    · rintro i σ H' hi ⟨rfl, o, rfl⟩
      have hid : i < ds.length := by rw [← hly]; simpa using hi
      have ed := List.getElem?_eq_getElem hid
      obtain ⟨v, hv, av⟩ := h2.get ed
      obtain ⟨u, hu, au⟩ := g2.get ed
      have e0 : (0 : Int) + (i : Int) = (i : Int) := by (clear hu hv ed hi ok hly hlx dp; omega)
      have dl := dpDs_get ed
      refine ⟨_, rfl, _, rfl, .inl ⟨a, xs, _, v, rfl, rfl, h1, by rw [e0]; exact atI_nat hv, _, rfl, _, rfl, .inl ⟨b, ys, _, u, rfl, rfl, g1, by rw [e0]; exact atI_nat hu, _, v, u, rfl, av, au, okDs_get ok.2 ed, by (clear e0 hu hv ed hi ok hly hlx; omega), _, rfl, iteF ?_⟩⟩⟩
      exact ⟨rfl, _, rfl⟩
    · rintro σ H' ⟨rfl, o, rfl⟩
      exact q
  | bl b => simp [okD] at ok
  | non => simp [okD] at ok
end
end Law
set_option Elab.async false
set_option linter.all false
set_option maxRecDepth 100000
set_option maxHeartbeats 4000000
local macro_rules | `(tactic| walk_at "rd") => `(tactic| repeat (first | refine ⟨_, rfl, ?_⟩ | refine ⟨_, _, rfl, rfl, ?_⟩ | refine ⟨rfl, ?_⟩ | refine ⟨_, _, _, _, rfl, rfl, by assumption, rfl, ?_⟩))
namespace Law
open PySem PySem.Spec PyProof.Rows L2 CH
section
variable {P : Program} {w : World} {K : PySem.W.Frag} {mg : Str → Option Value} {base : Heap}
/-- a list of at most 63 ints is handed in, True comes out -/
noncomputable def spLaw (K : PySem.W.Frag) : Sp := fun vs H Q _ => ∃ (a : Addr) (ns : List Int), vs = [.ref a] ∧ SqL K H a (ns.map V.int) ∧ ns.length ≤ 63 ∧ ∀ H', Q (.bl true) H'
theorem three_at {H : Hp} {p : Addr} {x y z : V} {d e f : Dt} (h : SqL K H p [x, y, z]) (h1 : At K H d x) (h2 : At K H e y) (h3 : At K H f z) : At K H (.lst [d, e, f]) (.ref p) := by
  simp only [At, Ats]
  exact ⟨p, _, rfl, h, _, _, rfl, h1, _, _, rfl, h2, _, _, rfl, h3, rfl⟩
theorem pair_at3 {H : Hp} {p : Addr} {x y : V} {d e : Dt} (h : SqL K H p [x, y]) (h1 : At K H d x) (h2 : At K H e y) : At K H (.lst [d, e]) (.ref p) := by
  simp only [At, Ats]
  exact ⟨p, _, rfl, h, _, _, rfl, h1, _, _, rfl, h2, rfl⟩
noncomputable def mixD (mss : List (List Rat)) : Dt := .lst (mss.map frsD)
theorem mix_at {H : Hp} {l : Addr} {zs : List V} {mss : List (List Rat)} (h : SqL K H l zs) (hA : Ats K H (mss.map frsD) zs) : At K H (mixD mss) (.ref l) := by
  simp only [mixD, At]
  exact ⟨l, zs, rfl, h, hA⟩
theorem dp_frs (qs : List Rat) : dpD (frsD qs) ≤ 3 := by
  simp only [frsD, dpD]
  have := dpDs_map (f := frD) (n := 1) (fun q => by simp [frD, dpD, dpDs]) qs
  omega
theorem dp_mix (mss : List (List Rat)) : dpD (mixD mss) ≤ 5 := by
  simp only [mixD, dpD]
  have := dpDs_map (f := frsD) (n := 3) dp_frs mss
  omega
noncomputable abbrev slaw : Stmt := top 46
theorem sclaw : FnScope ["_law_script", "_law_house_here", "_law_mix_here", "_law_spoilt_here", "_law_kept", "_law_chain", "_law_costs", "_law_first", "_law_way", "_law_row_here", "_law_again"] ["_law_script"] (defScope slaw) := ⟨rfl, rfl, rfl, by decide +kernel, rfl, by decide +kernel, by decide +kernel⟩
theorem ok_law {f c : Addr} {fd : FuncData} (B : Blt mg) (DLhouse : Dfn P w K mg base 4 "_law_house" ["_law_script"] (spHouse K)) (DLmix : Dfn P w K mg base 3 "_law_mix" ["_law_script", "_law_house_here"] (spMix K))
    (DLspoilt : Dfn P w K mg base 3 "_law_spoilt" ["_law_script", "_law_house_here", "_law_mix_here"] (spLSpoilt K)) (DLcopy : Dfn P w K mg base 1 "_law_copy" ["_law_house_here"] (spCopy K)) (DLalike : Dfn P w K mg base 6 "_law_alike" ["_law_found", "_law_due"] (spAlike K 6))
    (DLrow_due : Dfn P w K mg base 4 "_law_row_due" ["_law_doors", "_law_parts", "_law_many"] (spMixRow K)) (DLcost_due : Dfn P w K mg base 4 "_law_cost_due" ["_law_doors", "_law_parts"] (spMixCost K))
    (Dchain_mixed : DfnX P w K mg base 8 "chain_mixed" ["house", "mix"] (spMixX K c (rRows K))) (Dcosts_mixed : DfnX P w K mg base 8 "costs_mixed" ["house", "mix"] (spMixX K c fun _ hs mss v H' => At K H' (frsD (costsM hs mss)) v))
    (DLrefusal : Dfn P w K mg base 9 "_law_refusal" ["_law_house_here", "_law_mix_here", "_law_costs"] (spRefusal K)) (F : Fun K "law" "law" slaw f fd) : FnOk P w K mg base CX0 10 f fd ["_law_script"] (spLaw K) := by
  refine F.ok sclaw (fun vs H Q E h => ?_) (fun cdv A outer s H vs Q E hr h => ?_)
  · obtain ⟨a, b, rfl, _⟩ := h
    rfl
  obtain ⟨a, ns, rfl, hS, h63, q⟩ := h
  refine ⟨_, (pss_cons (ps_set (i := 1) sclaw.nd rfl (Or.inr rfl) (pe_callD DLhouse hr (pa_cons (pv 0) pa_nil)))
      (pss_cons (ps_set (i := 2) sclaw.nd rfl (Or.inr rfl) (pe_callD DLmix hr (pa_cons (pv 0) (pa_cons (pv 1) pa_nil))))
      (pss_cons (ps_set (i := 3) sclaw.nd rfl (Or.inl rfl) (pe_callD DLspoilt hr (pa_cons (pv 0) (pa_cons (pv 1) (pa_cons (pv 2) pa_nil)))))
      (pss_cons (ps_set (i := 4) sclaw.nd rfl (Or.inl rfl) (pe_lst (pa_cons (pe_callD DLcopy hr (pa_cons (pv 1) pa_nil)) (pa_cons (pe_comp ["_law_parts"] [] rfl (piL K (pv 2)) (fun Z nd => (pg_name (i := 0) nd rfl (Or.inl rfl))) (fun Z => pts_nil) (fun Z => (pe_callTy (lstK K) rfl B.list boot_list (pa_cons (pv 0) pa_nil)))) (pa_cons (pe_comp ["_law_parts"] [] rfl (piL K (pv 3)) (fun Z nd => (pg_name (i := 0) nd rfl (Or.inl rfl))) (fun Z => pts_nil) (fun Z => (pe_callTy (lstK K) rfl B.list boot_list (pa_cons (pv 0) pa_nil)))) pa_nil)))))
      (pss_cons (ps_setC (i := 5) ["_law_room"] [1, 2] sclaw.nd rfl rfl rfl (pi_range1 rfl B.range (pa_cons (pe_callB (lenK K) (by rfl) B.len boot_len (pa_cons (pv 1) pa_nil)) pa_nil)) (fun Z nd => (pg_name (i := 0) nd rfl (Or.inl rfl))) (fun Z => pts_nil) (fun Z => (pe_callD DLrow_due hr (pa_cons (pe_ix (ixL K) (pv 1) (pv 0) (fun _ _ => rfl)) (pa_cons (pe_ix (ixL K) (pv 2) (pv 0) (fun _ _ => rfl)) (pa_cons (pe_callB (lenK K) (by rfl) B.len boot_len (pa_cons (pv 1) pa_nil)) pa_nil))))))
      (pss_cons (ps_setC (i := 6) ["_law_room"] [1, 2] sclaw.nd rfl rfl rfl (pi_range1 rfl B.range (pa_cons (pe_callB (lenK K) (by rfl) B.len boot_len (pa_cons (pv 1) pa_nil)) pa_nil)) (fun Z nd => (pg_name (i := 0) nd rfl (Or.inl rfl))) (fun Z => pts_nil) (fun Z => (pe_callD DLcost_due hr (pa_cons (pe_ix (ixL K) (pv 1) (pv 0) (fun _ _ => rfl)) (pa_cons (pe_ix (ixL K) (pv 2) (pv 0) (fun _ _ => rfl)) pa_nil)))))
      (pss_cons (ps_set (i := 7) sclaw.nd rfl (Or.inl rfl) (pe_callX E0 Dchain_mixed hr pass_no (pa_cons (pv 1) (pa_cons (pv 2) pa_nil))))
      (pss_cons (ps_if (PW.pt (pw_or (pt_not (pt_val (pe_callD DLalike hr (pa_cons (pv 7) (pa_cons (pv 5) pa_nil))))) (pw_or1 (pt_not (pt_val (pe_callD DLalike hr (pa_cons (pe_callX E0 Dcosts_mixed hr pass_no (pa_cons (pv 1) (pa_cons (pv 2) pa_nil))) (pa_cons (pv 6) pa_nil))))))))
        (pss_one (ps_ret pe_bl))
        pss_nil)
      (pss_cons (ps_for PassesOwn.never rfl (piL K (pe_lst (pa_cons pe_bl (pa_cons pe_bl pa_nil)))) (pg_name (i := 8) sclaw.nd rfl (Or.inl rfl))
        (pss_one (ps_if (pt_cmpR (neK K (hu6 hr)) (pe_callD DLrefusal hr (pa_cons (pv 1) (pa_cons (pv 3) (pa_cons (pv 8) pa_nil)))) (pe_lst (pa_cons pe_bl (pa_cons pe_bl (pa_cons pe_bl pa_nil)))) (nomark _))
          (pss_one (ps_ret pe_bl))
          pss_nil)))
      (pss_cons (ps_if (PW.pt (pw_or (pt_cmpR (neK K (hu6 hr)) (pv 7) (pv 5) (nomark _)) (pw_or1 (pt_cmpR (neK K (hu6 hr)) (pv 4) (pe_lst (pa_cons (pv 1) (pa_cons (pv 2) (pa_cons (pv 3) pa_nil)))) (nomark _)))))
        (pss_one (ps_ret pe_bl))
        pss_nil)
      (pss_cons (ps_for PassesOwn.never rfl (piL K (pv 7)) (pg_name (i := 9) sclaw.nd rfl (Or.inl rfl))
        (pss_one (ps_expr (pe_bm0 PySem.F.plainAttrs_list PySem.F.slot_list_clear PySem.F.type_list_clear mt_clear (pv 9)))))
      (pss_cons (ps_set (i := 10) sclaw.nd rfl (Or.inl rfl) (pe_lst (pa_cons (pe_callX E0 Dchain_mixed hr pass_no (pa_cons (pv 1) (pa_cons (pv 2) pa_nil))) (pa_cons (pe_callX E0 Dcosts_mixed hr pass_no (pa_cons (pv 1) (pa_cons (pv 2) pa_nil))) pa_nil))))
      (pss_one (ps_ret (pe_and (pe_cmpR (eqK K (hu6 hr)) (pv 10) (pe_lst (pa_cons (pv 5) (pa_cons (pv 6) pa_nil))) (nomark _)) (pe_one (pe_cmpR (eqK K (hu6 hr)) (pv 4) (pe_lst (pa_cons (pv 1) (pa_cons (pv 2) (pa_cons (pv 3) pa_nil)))) (nomark _)))))))))))))))))), ?_⟩
  refine ⟨_, rfl, a, ns, rfl, hS, fun v1 H1 hs s1 a1 g => ?_⟩
  obtain ⟨b, us, rfl, hT, hA⟩ := id a1.house
  refine ⟨_, rfl, _, rfl, a, b, ns, us, hs, rfl, s1.seq hS, hT, hA, g, fun r H2 zs mss s2 hR hB ok mn => ?_⟩
  refine ⟨_, rfl, _, rfl, _, rfl, a, b, r, ns, us, zs, hs, mss, rfl, (s1.trans s2).seq hS, s2.seq hT, hA.same s2, g, hR, hB, ok, mn, fun p H3 zs' mss' s3 hP hPB mz bad => ?_⟩
  have hul := hA.len
  have hzl := hB.len
  have hpl := hPB.len
  have hml := ok.len
  have gl := g.len
  have gp := g.pos
  have ml' := mz.len
  refine ⟨_, rfl, .ref b, hs, rfl, a1.same (s2.trans s3), g.sm, fun v4 H4 s4 a4 => ?_⟩
  have s34 := s3.trans s4
  refine ⟨_, rfl, r, rfl, ⟨_, s34.seq hR⟩, comp_list (xs := zs) (fun i ys H' => Same H4 H' ∧ ys.length ≤ i ∧ Ats K H' ((mss.take i).map frsD) ys) (small1000 (by (clear ml' hpl hul bad h63; omega))) ⟨Same.refl _, Nat.le_refl _, by simp [Ats]⟩ (fun i ys H' _ h => ⟨(s34.trans h.1).seq hR, h.2.1⟩) ?_ ?_⟩
  · rintro i x ys H5 hx ⟨s5, hyl, hA5⟩
    obtain ⟨ms, hms, ham⟩ := (hB.same (s34.trans s5)).gets hx
    obtain ⟨ma, rfl, mx, hm1, hm2⟩ := At_frs ham
    refine ⟨keep1, allT ⟨_, rfl, ma, mx, rfl, .inl hm1, fun l hl => ?_⟩⟩
    have sl := same_new hl (.lst mx)
    refine ⟨s5.trans sl, by rw [List.length_append]; exact Nat.succ_le_succ hyl, ?_⟩
    rw [take_snoc hms, List.map_append]
    exact (hA5.same sl).snoc (frs_at sqL_new (hm2.same sl))
  rintro ys5 H5 ⟨s5, _, hA5⟩ r2 hr2
  rw [List.take_of_length_le (by (clear hr2 ml' gp gl hml hpl hul bad h63; omega))] at hA5
  have s5n := same_new hr2 (.lst ys5)
  have aR5 := mix_at (mss := mss) sqL_new (hA5.same s5n)
  have s45 := s4.trans (s5.trans s5n)
  have s55 := s5.trans s5n
  generalize upd H5 r2 (.lst ys5) = H6 at s45 s55 aR5
  refine ⟨_, rfl, p, rfl, ⟨_, s45.seq hP⟩, comp_list (xs := zs') (fun i ys H' => Same H6 H' ∧ ys.length ≤ i ∧ Ats K H' ((mss'.take i).map frsD) ys) (small1000 (by (clear hr2 gp gl hml hzl hul bad h63; omega))) ⟨Same.refl _, Nat.le_refl _, by simp [Ats]⟩ (fun i ys H' _ h => ⟨(s45.trans h.1).seq hP, h.2.1⟩) ?_ ?_⟩
  · rintro i x ys H7 hx ⟨s7, hyl, hA7⟩
    obtain ⟨ms, hms, ham⟩ := (hPB.same (s45.trans s7)).gets hx
    obtain ⟨ma, rfl, mx, hm1, hm2⟩ := At_frs ham
    refine ⟨keep1, allT ⟨_, rfl, ma, mx, rfl, .inl hm1, fun l hl => ?_⟩⟩
    have sl := same_new hl (.lst mx)
    refine ⟨s7.trans sl, by rw [List.length_append]; exact Nat.succ_le_succ hyl, ?_⟩
    rw [take_snoc hms, List.map_append]
    exact (hA7.same sl).snoc (frs_at sqL_new (hm2.same sl))
  rintro ys7 H7 ⟨s7, _, hA7⟩ p2 hp2
  rw [List.take_of_length_le (by (clear hp2 hr2 ml' gp gl hml hzl hul bad h63; omega))] at hA7
  have s7n := same_new hp2 (.lst ys7)
  have aP7 := mix_at (mss := mss') sqL_new (hA7.same s7n)
  have s67 := s7.trans s7n
  refine ⟨small (by show 3 ≤ 1000; decide), fun kp hkp => ?_⟩
  have s8 := same_new hkp (.lst [v4, .ref r2, .ref p2])
  have hK7 := three_at sqL_new (a4.same ((s55.trans s67).trans s8)) (aR5.same (s67.trans s8)) (aP7.same s8)
  have s48 := (s45.trans s67).trans s8
  have s38 := s3.trans s48
  have s28 := s2.trans s38
  have hS7 := (s1.trans s28).seq hS
  have hT7 := s28.seq hT
  have hA7 := hA.same s28
  have hR7 := s38.seq hR
  have hB7 := hB.same s38
  have hP7 := s48.seq hP
  have hPB7 := hPB.same s48
  have hH7 := a1.same s28
  generalize upd (upd H7 p2 (.lst ys7)) kp (.lst [v4, .ref r2, .ref p2]) = G at hS7 hT7 hA7 hR7 hB7 hP7 hPB7 hH7 hK7
  have z0 : ∀ i : Nat, (0 : Int) + (i : Int) = (i : Int) := fun i => by (clear hkp hp2 hr2 ml' gp gl hml hpl hzl hul bad h63; omega)
  have room : ∀ (i : Nat) (G' : Hp), Same G G' → i < us.length → ∃ da dx ds ma ms, us[i]? = some (.ref da) ∧ SqL K G' da dx ∧ Ats K G' (ds.map doorD) dx ∧ zs[i]? = some (.ref ma) ∧ FrL K G' ma ms ∧ hs[i]? = some ds ∧ mss[i]? = some ms := fun i G' sG hi => by
    obtain ⟨ds, hds, had⟩ := (hA7.same sG).gets (List.getElem?_eq_getElem hi)
    obtain ⟨da, dx, e0, hd1, hd2⟩ := had.doors
    have hiz : i < zs.length := by (clear e0 hds hkp hp2 hr2 ml' gp gl hpl bad h63; omega)
    obtain ⟨ms, hms, ham⟩ := (hB7.same sG).gets (List.getElem?_eq_getElem hiz)
    obtain ⟨ma, e1, hm1⟩ := At_frs ham
    exact ⟨da, dx, ds, ma, ms, by rw [List.getElem?_eq_getElem hi, e0], hd1, hd2, by rw [List.getElem?_eq_getElem hiz, e1], hm1, hds, hms⟩
  have clen : (chainM hs mss).length = hs.length := by unfold chainM; rw [List.length_map, List.length_zip]; (clear hkp hp2 hr2 ml' gp gl hpl hzl hul bad h63; omega)
  have colen : (costsM hs mss).length = hs.length := by unfold costsM; rw [List.length_map, List.length_zip]; (clear hkp hp2 hr2 ml' gp gl hpl hzl hul bad h63; omega)
  -- the chain that is due
  refine ⟨_, rfl, _, _, rfl, .inl hT7, _, rfl, by (clear hkp hp2 hr2 ml' hpl bad h63; omega), by (clear hkp hp2 hr2 ml' hpl bad h63; omega), comp_range (fun i ys H' => Same G H' ∧ ys.length ≤ i ∧ Ats K H' (((chainM hs mss).take i).map rowD) ys) (by show us.length < sizeLine; exact small1000 (by (clear hkp hp2 hr2 ml' hpl bad h63; omega))) ⟨Same.refl _, Nat.le_refl _, by simp [Ats]⟩ (fun i ys H' _ h => h.2.1) ?_ ?_⟩
  · rintro i ys G1 hi ⟨t1, hyl, hA1⟩
    obtain ⟨da, dx, ds, ma, ms, e1, e2, e3, e4, e5, e6, e7⟩ := room i G1 t1 (by simpa using hi)
    have dm := List.mem_of_getElem? e6
    have zat : (chainM hs mss)[i]? = some (dueL 0 (mixG hs.length (mixP (ds.zip ms)))) := by unfold chainM; rw [List.getElem?_map, zip_at e6 e7]; rfl
    refine ⟨keep1, allT ⟨_, rfl, _, rfl, b, us, _, _, rfl, rfl, t1.seq hT7, by rw [z0]; exact atI_nat e1, _, rfl, _, rfl, r, zs, _, _, rfl, rfl, t1.seq hR7, by rw [z0]; exact atI_nat e4, _, rfl, _, _, rfl, .inl (t1.seq hT7), da, ma, hs.length, dx, ds, ms, by rw [hul]; rfl, e2, e3, e5, ok.here i ds ms e6 e7, (g.lens ds dm).2, gl, fun d hd => g.row ds dm d hd, fun D G2 y2 t2 _ h2 hA2 => ⟨t1.trans t2, by rw [List.length_append]; exact Nat.succ_le_succ hyl, ?_⟩⟩⟩
    rw [take_snoc zat, List.map_append]
    exact (hA1.same t2).snoc (row_at (SqL.of h2) hA2)
  rintro ys1 G1 ⟨t1, _, hC1⟩ ch hch
  rw [List.take_of_length_le (by rw [clen, ← hul]; simp)] at hC1
  have t2 := t1.trans (same_new hch (.lst ys1))
  have hCh : At K (upd G1 ch (.lst ys1)) (.lst ((chainM hs mss).map rowD)) (.ref ch) := by
    simp only [At]
    exact ⟨ch, ys1, rfl, sqL_new, hC1.same (same_new hch (.lst ys1))⟩
  generalize upd G1 ch (.lst ys1) = G2 at t2 hCh
  -- the costs that are due
  refine ⟨_, rfl, _, _, rfl, .inl (t2.seq hT7), _, rfl, by (clear hch hkp hp2 hr2 ml' hpl bad h63; omega), by (clear hch hkp hp2 hr2 ml' hpl bad h63; omega), comp_range (fun i ys H' => Same G2 H' ∧ ys.length ≤ i ∧ Ats K H' (((costsM hs mss).take i).map frD) ys) (by show us.length < sizeLine; exact small1000 (by (clear hch hkp hp2 hr2 ml' hpl bad h63; omega))) ⟨Same.refl _, Nat.le_refl _, by simp [Ats]⟩ (fun i ys H' _ h => h.2.1) ?_ ?_⟩
  · rintro i ys G3 hi ⟨t3, hyl, hA1⟩
    have t23 := t2.trans t3
    obtain ⟨da, dx, ds, ma, ms, e1, e2, e3, e4, e5, e6, e7⟩ := room i G3 t23 (by simpa using hi)
    have dm := List.mem_of_getElem? e6
    have zat : (costsM hs mss)[i]? = some (psumR (ms.zip (ds.map (·.1)))) := by unfold costsM; rw [List.getElem?_map, zip_at e6 e7]; rfl
    refine ⟨keep1, allT ⟨_, rfl, _, rfl, b, us, _, _, rfl, rfl, t23.seq hT7, by rw [z0]; exact atI_nat e1, _, rfl, _, rfl, r, zs, _, _, rfl, rfl, t23.seq hR7, by rw [z0]; exact atI_nat e4, da, ma, dx, ds, ms, rfl, e2, e3, e5, ok.here i ds ms e6 e7, (g.lens ds dm).2, fun d hd => (g.cost ds dm d hd).2, fun pp G4 t4 f4 => ⟨t3.trans t4, by rw [List.length_append]; exact Nat.succ_le_succ hyl, ?_⟩⟩⟩
    rw [take_snoc zat, List.map_append]
    exact (hA1.same t4).snoc (FracT.at f4)
  rintro ys3 G3 ⟨t3, _, hC3⟩ co hco
  rw [List.take_of_length_le (by rw [colen, ← hul]; simp)] at hC3
  have t3n := t3.trans (same_new hco (.lst ys3))
  have t4 := t2.trans t3n
  have hCo : At K (upd G3 co (.lst ys3)) (frsD (costsM hs mss)) (.ref co) := frs_at sqL_new (hC3.same (same_new hco (.lst ys3)))
  have hCh4 := hCh.same t3n
  generalize upd G3 co (.lst ys3) = G4 at t4 hCo hCh4
  have okc : okD (.lst ((chainM hs mss).map rowD)) = true := okD_rows (by rw [clen]; (clear hco hch hkp hp2 hr2 ml' hpl hul bad h63; omega)) (fun ws hw => by
    unfold chainM at hw
    obtain ⟨zz, _, rfl⟩ := List.mem_map.mp hw
    have h1 := dueL_len (gs := mixG hs.length (mixP (zz.1.zip zz.2))) (k := 0)
    have h2 : (mixG hs.length (mixP (zz.1.zip zz.2))).length = hs.length := by unfold mixG; rw [List.length_map, List.length_range]
    (clear hco hch hkp hp2 hr2 ml' hpl hul bad h63; omega))
  have okf : okD (frsD (costsM hs mss)) = true := by
    simp only [frsD, okD, Bool.and_eq_true, decide_eq_true_eq, List.length_map]
    exact ⟨by (clear okc hco hch hkp hp2 hr2 ml' hpl hul bad h63; omega), okDs_map fun q _ => okD_fr q⟩
  have dpf : dpD (frsD (costsM hs mss)) < 6 := Nat.lt_of_le_of_lt (dp_frs _) (by decide)
  have dpc : dpD (.lst ((chainM hs mss).map rowD)) < 6 := Nat.lt_of_le_of_lt (dpD_rows _) (by decide)
  -- first
  refine ⟨_, rfl, _, rfl, b, r, us, zs, hs, mss, rfl, t4.seq hT7, hA7.same t4, t4.seq hR7, hB7.same t4, g, .inl ⟨ok, fun v5 G5 t5 hF => ?_⟩⟩
  obtain ⟨fo, xs, rfl, hF1, hFN, hFA⟩ := hF
  have hFat : At K G5 (.lst ((chainM hs mss).map rowD)) (.ref fo) := by
    simp only [At]
    exact ⟨fo, xs, rfl, SqL.of hF1, hFA⟩
  refine ⟨_, rfl, _, rfl, .lst ((chainM hs mss).map rowD), .ref fo, .ref ch, rfl, hFat, hCh4.same t5, okc, dpc, _, rfl, iteF ?_⟩
  have t45 := t4.trans t5
  refine ⟨_, rfl, _, rfl, b, r, us, zs, hs, mss, rfl, t45.seq hT7, hA7.same t45, t45.seq hR7, hB7.same t45, g, .inl ⟨ok, fun v6 G6 t6 hF6 => ?_⟩⟩
  have t56 := t5.trans t6
  refine ⟨_, rfl, frsD (costsM hs mss), v6, .ref co, rfl, hF6, hCo.same t56, okf, dpf, _, rfl, iteF ?_⟩
  -- refusals
  have tr : ∀ {G' : Hp} {l : Addr}, SqL K G' l [.bl true, .bl true, .bl false] → At K G' (.lst [.bl true, .bl true, .bl false]) (.ref l) := fun h => three_at h (by simp [At]) (by simp [At]) (by simp [At])
  refine ⟨small (by show 2 ≤ 1000; decide), fun L hL => ⟨L, rfl, ⟨_, sqL_new⟩, ?_⟩⟩
  have t7 := t6.trans (same_new hL (.lst [.bl true, .bl false]))
  have hL7 : SqL K (upd G6 L (.lst [.bl true, .bl false])) L [.bl true, .bl false] := sqL_new
  generalize upd G6 L (.lst [.bl true, .bl false]) = G7 at t7 hL7
  refine for_list (xs := [.bl true, .bl false]) (fun i σ H' => ∃ o8, σ = [some (.ref a), some (.ref b), some (.ref r), some (.ref p), some (.ref kp), some (.ref ch), some (.ref co), some (.ref fo), o8, none, none] ∧ Same G7 H') ⟨none, rfl, Same.refl _⟩ (fun i σ H' _ h => by obtain ⟨_, _, h⟩ := h; exact h.seq hL7) ?_ ?_
  · rintro i x σ G8 hx ⟨o8, rfl, t8⟩
    obtain ⟨xb, rfl⟩ : ∃ xb, x = .bl xb := by
      match i, hx with
      | 0, hx => exact ⟨_, (Option.some.inj hx).symm⟩
      | 1, hx => exact ⟨_, (Option.some.inj hx).symm⟩
    have t48 := t45.trans (t7.trans t8)
    refine ⟨_, rfl, _, rfl, _, rfl, b, p, xb, us, zs', hs, mss', rfl, t48.seq hT7, hA7.same t48, t48.seq hP7, hPB7.same t48, g, mz, bad, fun l G9 t9 hl => ⟨small (by show 3 ≤ 1000; decide), fun m hm => ?_⟩⟩
    have t10 := same_new hm (.lst [.bl true, .bl true, .bl false])
    refine ⟨_, _, (tr hl).same t10, tr sqL_new, cmpD_self _, by simp [dpD, dpDs], ⟨_, rfl⟩, _, rfl, ?_⟩
    rw [eqD_self]
    exact iteF ⟨_, rfl, (t8.trans t9).trans t10⟩
  rintro σ G8 ⟨o8, rfl, t8⟩
  have t58 := t7.trans t8
  have t48 := t5.trans t58
  have tG8 := t4.trans t48
  have keptD : dpD (.lst [houseD hs, mixD mss, mixD mss']) ≤ 50 := by
    have h1 := dpD_house hs
    have h2 := dp_mix mss
    have h3 := dp_mix mss'
    simp only [dpD, dpDs] at h2 h3 ⊢; (clear hL hF1 dpc dpf okf okc hco hch colen clen hkp hp2 hr2 ml' gp gl hml hpl hzl hul bad h63; omega)
  refine ⟨_, rfl, _, rfl, .lst ((chainM hs mss).map rowD), .lst ((chainM hs mss).map rowD), hFat.same t58, hCh4.same t48, cmpD_self _, Nat.le_trans (Nat.le_of_lt dpc) (by decide), ⟨_, rfl⟩, _, rfl, ?_⟩
  rw [eqD_self]
  refine iteF ?_
  refine ⟨_, rfl, _, rfl, _, rfl, _, rfl, small (by show 3 ≤ 1000; decide), fun m hm => ?_⟩
  have tm := same_new hm (.lst [.ref b, .ref r, .ref p])
  have t10 := tG8.trans tm
  refine ⟨.lst [houseD hs, mixD mss, mixD mss'], .lst [houseD hs, mixD mss, mixD mss'], hK7.same t10, three_at sqL_new (hH7.same t10) (mix_at (t10.seq hR7) (hB7.same t10)) (mix_at (t10.seq hP7) (hPB7.same t10)), cmpD_self _, keptD, ⟨_, rfl⟩, _, rfl, ?_⟩
  rw [eqD_self]
  refine iteF ?_
  have w10 := t48.trans tm
  have hF10 := (t58.trans tm) _ _ hF1
  have hN10 : ∀ x ∈ xs, NewL G4 (upd G8 m (.lst [.ref b, .ref r, .ref p])) x := fun x hx => ((hFN x hx).1).same (t58.trans tm)
  generalize upd G8 m (.lst [.ref b, .ref r, .ref p]) = G10 at w10 hF10 hN10
  -- all rows of the first answer are emptied
  refine ⟨_, rfl, fo, rfl, ⟨_, SqL.of hF10⟩, ?_⟩
  refine for_list (xs := xs) (fun i σ H' => ∃ o9, σ = [some (.ref a), some (.ref b), some (.ref r), some (.ref p), some (.ref kp), some (.ref ch), some (.ref co), some (.ref fo), o8, o9, none] ∧ Same G4 H' ∧ H' fo = some (.lst xs) ∧ ∀ x ∈ xs, NewL G4 H' x) ⟨none, rfl, w10, hF10, hN10⟩ (fun i σ H' _ h => by obtain ⟨_, _, _, h, _⟩ := h; exact SqL.of h) ?_ ?_
  · rintro i x σ G11 hx ⟨o9, rfl, t11, hf11, hn11⟩
    have xm := List.mem_of_getElem? hx
    obtain ⟨l, ys, rfl, nl, hl⟩ := hn11 x xm
    have hlf : fo ≠ l := fun e => (hFN _ xm).2 (by rw [e])
    refine ⟨_, rfl, .inl ⟨rfl, _, SqL.of hl⟩, l, ys, rfl, rfl, hl, ?_⟩
    refine ⟨_, rfl, same_upd t11 nl, by rw [upd_ne hlf]; exact hf11, fun x' hx' => ?_⟩
    obtain ⟨l', ys', rfl, nl', hl'⟩ := hn11 x' hx'
    by_cases e : l' = l
    · subst e
      exact ⟨_, [], rfl, nl', upd_same⟩
    · exact ⟨_, ys', rfl, nl', by rw [upd_ne e]; exact hl'⟩
  rintro σ G11 ⟨o9, rfl, w11, _, _⟩
  have t11 := t4.trans w11
  -- again
  refine ⟨_, rfl, _, rfl, b, r, us, zs, hs, mss, rfl, t11.seq hT7, hA7.same t11, t11.seq hR7, hB7.same t11, g, .inl ⟨ok, fun v12 G12 t12 hF2 => ?_⟩⟩
  obtain ⟨fo2, xs2, rfl, hS1, _, hSA⟩ := hF2
  have hF2at : At K G12 (.lst ((chainM hs mss).map rowD)) (.ref fo2) := by
    simp only [At]
    exact ⟨fo2, xs2, rfl, SqL.of hS1, hSA⟩
  have w12 := w11.trans t12
  have u12 := t4.trans w12
  refine ⟨_, rfl, _, rfl, b, r, us, zs, hs, mss, rfl, u12.seq hT7, hA7.same u12, u12.seq hR7, hB7.same u12, g, .inl ⟨ok, fun v13 G13 t13 hF13 => ⟨small (by show 2 ≤ 1000; decide), fun ag hag => ?_⟩⟩⟩
  have tag := same_new hag (.lst [.ref fo2, v13])
  refine ⟨_, rfl, _, rfl, _, rfl, small (by show 2 ≤ 1000; decide), fun m2 hm2 => ?_⟩
  have tm2 := same_new hm2 (.lst [.ref ch, .ref co])
  have w14 := (w12.trans (t13.trans tag)).trans tm2
  have dp2 : dpD (.lst [.lst ((chainM hs mss).map rowD), frsD (costsM hs mss)]) ≤ 50 := by
    simp only [dpD, dpDs] at dpc ⊢; (clear hm2 hag hS1 hF10 hm keptD hL hF1 okf okc hco hch colen clen hkp hp2 hr2 ml' gp gl hml hpl hzl hul bad h63; omega)
  refine ⟨.lst [.lst ((chainM hs mss).map rowD), frsD (costsM hs mss)], .lst [.lst ((chainM hs mss).map rowD), frsD (costsM hs mss)], (pair_at3 sqL_new (hF2at.same (t13.trans tag)) (hF13.same tag)).same tm2, pair_at3 sqL_new (hCh4.same w14) (hCo.same w14), cmpD_self _, dp2, ⟨_, rfl⟩, _, rfl, ?_⟩
  rw [eqD_self]
  refine iteT ?_
  have z14 := t4.trans w14
  refine ⟨_, rfl, _, rfl, _, rfl, _, rfl, small (by show 3 ≤ 1000; decide), fun m3 hm3 => ?_⟩
  have t15 := z14.trans (same_new hm3 (.lst [.ref b, .ref r, .ref p]))
  refine ⟨.lst [houseD hs, mixD mss, mixD mss'], .lst [houseD hs, mixD mss, mixD mss'], hK7.same t15, three_at sqL_new (hH7.same t15) (mix_at (t15.seq hR7) (hB7.same t15)) (mix_at (t15.seq hP7) (hPB7.same t15)), cmpD_self _, keptD, ⟨_, rfl⟩, ?_⟩
  rw [eqD_self]
  exact q _
end
end Law
set_option Elab.async false
set_option linter.all false
set_option maxRecDepth 100000
set_option maxHeartbeats 4000000
local macro_rules | `(tactic| walk_at "rd") => `(tactic| repeat (first | refine ⟨_, rfl, ?_⟩ | refine ⟨_, _, rfl, rfl, ?_⟩ | refine ⟨rfl, ?_⟩ | refine ⟨_, _, _, _, rfl, rfl, by assumption, rfl, ?_⟩))
namespace Law
open PySem PySem.Spec PyProof.Rows L2 CH
section
variable {P : Program} {w : World} {K : PySem.W.Frag} {mg : Str → Option Value} {base : Heap}

end
theorem all_mk {l : PySem.W.OpenLaw} {w : World} {K : PySem.W.Frag} {h : Heap} {mg : Str → Option Value} {fa f1 f2 f3 f4 f5 f6 f7 f8 f9 f10 f11 f12 f13 f14 f15 f16 f17 f18 f19 f20 f21 f22 f23 f24 f25 f26 f27 f28 f29 f30 f31 : Addr} (X : K.In h) (G : h.Ns mainGlobals mg) (hfa : mg "law" = some (.ref fa))
    {od1 an1 od2 an2 od3 an3 od4 an4 od5 an5 od6 an6 od7 an7 od8 an8 od9 an9 od10 an10 od11 an11 od12 an12 od13 an13 od14 an14 od15 an15 od16 an16 od17 an17 od18 an18 od19 an19 od20 an20 od21 an21 od22 an22 od23 an23 od24 an24 od25 an25 od26 an26 od27 an27 od28 an28 od29 an29 od30 an30 od31 an31 : Option Addr} {sl1 sl2 sl3 sl4 sl5 sl6 sl7 sl8 sl9 sl10 sl11 sl12 sl13 sl14 sl15 sl16 sl17 sl18 sl19 sl20 sl21 sl22 sl23 sl24 sl25 sl26 sl27 sl28 sl29 sl30 sl31 : Array (Option Value)} {oc1 kV1 dc1 pm1 cd1 ct1 oc2 kV2 dc2 pm2 cd2 ct2 oc3 kV3 dc3 pm3 cd3 ct3 oc4 kV4 dc4 pm4 cd4 ct4 oc5 kV5 dc5 pm5 cd5 ct5 oc6 kV6 dc6 pm6 cd6 ct6 oc7 kV7 dc7 pm7 cd7 ct7 oc8 kV8 dc8 pm8 cd8 ct8 oc9 kV9 dc9 pm9 cd9 ct9 oc10 kV10 dc10 pm10 cd10 ct10 oc11 kV11 dc11 pm11 cd11 ct11 oc12 kV12 dc12 pm12 cd12 ct12 oc13 kV13 dc13 pm13 cd13 ct13 oc14 kV14 dc14 pm14 cd14 ct14 oc15 kV15 dc15 pm15 cd15 ct15 oc16 kV16 dc16 pm16 cd16 ct16 oc17 kV17 dc17 pm17 cd17 ct17 oc18 kV18 dc18 pm18 cd18 ct18 oc19 kV19 dc19 pm19 cd19 ct19 oc20 kV20 dc20 pm20 cd20 ct20 oc21 kV21 dc21 pm21 cd21 ct21 oc22 kV22 dc22 pm22 cd22 ct22 oc23 kV23 dc23 pm23 cd23 ct23 oc24 kV24 dc24 pm24 cd24 ct24 oc25 kV25 dc25 pm25 cd25 ct25 oc26 kV26 dc26 pm26 cd26 ct26 oc27 kV27 dc27 pm27 cd27 ct27 oc28 kV28 dc28 pm28 cd28 ct28 oc29 kV29 dc29 pm29 cd29 ct29 oc30 kV30 dc30 pm30 cd30 ct30 oc31 kV31 dc31 pm31 cd31 ct31 : Value} {g1 g2 : Addr} {gd1 gd2 : Option Addr} {gn1 gn2 : Nat} {gs1 gs2 : Array (Option Value)} {gt1 gu1 gt2 gu2 : Tok}
    (a1 : PySem.W.nsIn K mainGlobals "_law_cell_at" = some (some (.ref f1))) (l1 : K.lookup f1 = some ⟨oc1, od1, .func (PySem.W.fnOf "_law_cell_at" "_law_cell_at" (defArgs sL_cell_at) (defBody sL_cell_at) (defScope sL_cell_at) .none kV1 dc1 pm1 an1 cd1 ct1), sl1⟩) (c1 : PySem.W.codeIn K cd1 "_law_cell_at" = true) (k1 : PySem.W.keepIn K (.ref f1) = true)
    (a2 : PySem.W.nsIn K mainGlobals "is_whole" = some (some (.ref f2))) (l2 : K.lookup f2 = some ⟨oc2, od2, .func (PySem.W.fnOf "is_whole" "is_whole" (defArgs sis_whole) (defBody sis_whole) (defScope sis_whole) .none kV2 dc2 pm2 an2 cd2 ct2), sl2⟩) (c2 : PySem.W.codeIn K cd2 "is_whole" = true) (k2 : PySem.W.keepIn K (.ref f2) = true)
    (a3 : PySem.W.nsIn K mainGlobals "common_divisor" = some (some (.ref f3))) (l3 : K.lookup f3 = some ⟨oc3, od3, .func (PySem.W.fnOf "common_divisor" "common_divisor" (defArgs scommon_divisor) (defBody scommon_divisor) (defScope scommon_divisor) .none kV3 dc3 pm3 an3 cd3 ct3), sl3⟩) (c3 : PySem.W.codeIn K cd3 "common_divisor" = true) (k3 : PySem.W.keepIn K (.ref f3) = true)
    (a4 : PySem.W.nsIn K mainGlobals "fraction" = some (some (.ref f4))) (l4 : K.lookup f4 = some ⟨oc4, od4, .func (PySem.W.fnOf "fraction" "fraction" (defArgs sfraction) (defBody sfraction) (defScope sfraction) .none kV4 dc4 pm4 an4 cd4 ct4), sl4⟩) (c4 : PySem.W.codeIn K cd4 "fraction" = true) (k4 : PySem.W.keepIn K (.ref f4) = true)
    (a5 : PySem.W.nsIn K mainGlobals "plus" = some (some (.ref f5))) (l5 : K.lookup f5 = some ⟨oc5, od5, .func (PySem.W.fnOf "plus" "plus" (defArgs splus) (defBody splus) (defScope splus) .none kV5 dc5 pm5 an5 cd5 ct5), sl5⟩) (c5 : PySem.W.codeIn K cd5 "plus" = true) (k5 : PySem.W.keepIn K (.ref f5) = true)
    (a6 : PySem.W.nsIn K mainGlobals "times" = some (some (.ref f6))) (l6 : K.lookup f6 = some ⟨oc6, od6, .func (PySem.W.fnOf "times" "times" (defArgs stimes) (defBody stimes) (defScope stimes) .none kV6 dc6 pm6 an6 cd6 ct6), sl6⟩) (c6 : PySem.W.codeIn K cd6 "times" = true) (k6 : PySem.W.keepIn K (.ref f6) = true)
    (a7 : PySem.W.nsIn K mainGlobals "less" = some (some (.ref f7))) (l7 : K.lookup f7 = some ⟨oc7, od7, .func (PySem.W.fnOf "less" "less" (defArgs sless) (defBody sless) (defScope sless) .none kV7 dc7 pm7 an7 cd7 ct7), sl7⟩) (c7 : PySem.W.codeIn K cd7 "less" = true) (k7 : PySem.W.keepIn K (.ref f7) = true)
    (a8 : PySem.W.nsIn K mainGlobals "total" = some (some (.ref f8))) (l8 : K.lookup f8 = some ⟨oc8, od8, .func (PySem.W.fnOf "total" "total" (defArgs stotal) (defBody stotal) (defScope stotal) .none kV8 dc8 pm8 an8 cd8 ct8), sl8⟩) (c8 : PySem.W.codeIn K cd8 "total" = true) (k8 : PySem.W.keepIn K (.ref f8) = true)
    (a9 : PySem.W.nsIn K mainGlobals "comes_to_one" = some (some (.ref f9))) (l9 : K.lookup f9 = some ⟨oc9, od9, .func (PySem.W.fnOf "comes_to_one" "comes_to_one" (defArgs scomes_to_one) (defBody scomes_to_one) (defScope scomes_to_one) .none kV9 dc9 pm9 an9 cd9 ct9), sl9⟩) (c9 : PySem.W.codeIn K cd9 "comes_to_one" = true) (k9 : PySem.W.keepIn K (.ref f9) = true)
    (a10 : PySem.W.nsIn K mainGlobals "_law_lowest" = some (some (.ref f10))) (l10 : K.lookup f10 = some ⟨oc10, od10, .func (PySem.W.fnOf "_law_lowest" "_law_lowest" (defArgs sL_lowest) (defBody sL_lowest) (defScope sL_lowest) .none kV10 dc10 pm10 an10 cd10 ct10), sl10⟩) (c10 : PySem.W.codeIn K cd10 "_law_lowest" = true) (k10 : PySem.W.keepIn K (.ref f10) = true)
    (a11 : PySem.W.nsIn K mainGlobals "_law_cost" = some (some (.ref f11))) (l11 : K.lookup f11 = some ⟨oc11, od11, .func (PySem.W.fnOf "_law_cost" "_law_cost" (defArgs sL_cost) (defBody sL_cost) (defScope sL_cost) .none kV11 dc11 pm11 an11 cd11 ct11), sl11⟩) (c11 : PySem.W.codeIn K cd11 "_law_cost" = true) (k11 : PySem.W.keepIn K (.ref f11) = true)
    (a12 : PySem.W.nsIn K mainGlobals "_law_row" = some (some (.ref f12))) (l12 : K.lookup f12 = some ⟨oc12, od12, .func (PySem.W.fnOf "_law_row" "_law_row" (defArgs sL_row) (defBody sL_row) (defScope sL_row) .none kV12 dc12 pm12 an12 cd12 ct12), sl12⟩) (c12 : PySem.W.codeIn K cd12 "_law_row" = true) (k12 : PySem.W.keepIn K (.ref f12) = true)
    (a13 : PySem.W.nsIn K mainGlobals "_law_house" = some (some (.ref f13))) (l13 : K.lookup f13 = some ⟨oc13, od13, .func (PySem.W.fnOf "_law_house" "_law_house" (defArgs sL_house) (defBody sL_house) (defScope sL_house) .none kV13 dc13 pm13 an13 cd13 ct13), sl13⟩) (c13 : PySem.W.codeIn K cd13 "_law_house" = true) (k13 : PySem.W.keepIn K (.ref f13) = true)
    (a14 : PySem.W.nsIn K mainGlobals "row_of" = some (some (.ref f14))) (l14 : K.lookup f14 = some ⟨oc14, od14, .func (PySem.W.fnOf "row_of" "row_of" (defArgs srow_of) (defBody srow_of) (defScope srow_of) .none kV14 dc14 pm14 an14 cd14 ct14), sl14⟩) (c14 : PySem.W.codeIn K cd14 "row_of" = true) (k14 : PySem.W.keepIn K (.ref f14) = true)
    (a15 : PySem.W.nsIn K mainGlobals "are_shares" = some (some (.ref f15))) (l15 : K.lookup f15 = some ⟨oc15, od15, .func (PySem.W.fnOf "are_shares" "are_shares" (defArgs sare_shares) (defBody sare_shares) (defScope sare_shares) .none kV15 dc15 pm15 an15 cd15 ct15), sl15⟩) (c15 : PySem.W.codeIn K cd15 "are_shares" = true) (k15 : PySem.W.keepIn K (.ref f15) = true)
    (a16 : PySem.W.nsIn K mainGlobals "is_mix" = some (some (.ref f16))) (l16 : K.lookup f16 = some ⟨oc16, od16, .func (PySem.W.fnOf "is_mix" "is_mix" (defArgs sis_mix) (defBody sis_mix) (defScope sis_mix) .none kV16 dc16 pm16 an16 cd16 ct16), sl16⟩) (c16 : PySem.W.codeIn K cd16 "is_mix" = true) (k16 : PySem.W.keepIn K (.ref f16) = true)
    (a17 : PySem.W.nsIn K mainGlobals "refuse_no_mix" = some (some (.ref f17))) (l17 : K.lookup f17 = some ⟨oc17, od17, .func (PySem.W.fnOf "refuse_no_mix" "refuse_no_mix" (defArgs srefuse_no_mix) (defBody srefuse_no_mix) (defScope srefuse_no_mix) .none kV17 dc17 pm17 an17 cd17 ct17), sl17⟩) (c17 : PySem.W.codeIn K cd17 "refuse_no_mix" = true) (k17 : PySem.W.keepIn K (.ref f17) = true)
    (a18 : PySem.W.nsIn K mainGlobals "mixed_row" = some (some (.ref f18))) (l18 : K.lookup f18 = some ⟨oc18, od18, .func (PySem.W.fnOf "mixed_row" "mixed_row" (defArgs smixed_row) (defBody smixed_row) (defScope smixed_row) .none kV18 dc18 pm18 an18 cd18 ct18), sl18⟩) (c18 : PySem.W.codeIn K cd18 "mixed_row" = true) (k18 : PySem.W.keepIn K (.ref f18) = true)
    (a19 : PySem.W.nsIn K mainGlobals "mixed_cost" = some (some (.ref f19))) (l19 : K.lookup f19 = some ⟨oc19, od19, .func (PySem.W.fnOf "mixed_cost" "mixed_cost" (defArgs smixed_cost) (defBody smixed_cost) (defScope smixed_cost) .none kV19 dc19 pm19 an19 cd19 ct19), sl19⟩) (c19 : PySem.W.codeIn K cd19 "mixed_cost" = true) (k19 : PySem.W.keepIn K (.ref f19) = true)
    (a20 : PySem.W.nsIn K mainGlobals "chain_mixed" = some (some (.ref f20))) (l20 : K.lookup f20 = some ⟨oc20, od20, .func (PySem.W.fnOf "chain_mixed" "chain_mixed" (defArgs schain_mixed) (defBody schain_mixed) (defScope schain_mixed) .none kV20 dc20 pm20 an20 cd20 ct20), sl20⟩) (c20 : PySem.W.codeIn K cd20 "chain_mixed" = true) (k20 : PySem.W.keepIn K (.ref f20) = true)
    (a21 : PySem.W.nsIn K mainGlobals "costs_mixed" = some (some (.ref f21))) (l21 : K.lookup f21 = some ⟨oc21, od21, .func (PySem.W.fnOf "costs_mixed" "costs_mixed" (defArgs scosts_mixed) (defBody scosts_mixed) (defScope scosts_mixed) .none kV21 dc21 pm21 an21 cd21 ct21), sl21⟩) (c21 : PySem.W.codeIn K cd21 "costs_mixed" = true) (k21 : PySem.W.keepIn K (.ref f21) = true)
    (a22 : PySem.W.nsIn K mainGlobals "_law_sum" = some (some (.ref f22))) (l22 : K.lookup f22 = some ⟨oc22, od22, .func (PySem.W.fnOf "_law_sum" "_law_sum" (defArgs sL_sum) (defBody sL_sum) (defScope sL_sum) .none kV22 dc22 pm22 an22 cd22 ct22), sl22⟩) (c22 : PySem.W.codeIn K cd22 "_law_sum" = true) (k22 : PySem.W.keepIn K (.ref f22) = true)
    (a23 : PySem.W.nsIn K mainGlobals "_law_main" = some (some (.ref f23))) (l23 : K.lookup f23 = some ⟨oc23, od23, .func (PySem.W.fnOf "_law_main" "_law_main" (defArgs sL_main) (defBody sL_main) (defScope sL_main) .none kV23 dc23 pm23 an23 cd23 ct23), sl23⟩) (c23 : PySem.W.codeIn K cd23 "_law_main" = true) (k23 : PySem.W.keepIn K (.ref f23) = true)
    (a24 : PySem.W.nsIn K mainGlobals "_law_mix" = some (some (.ref f24))) (l24 : K.lookup f24 = some ⟨oc24, od24, .func (PySem.W.fnOf "_law_mix" "_law_mix" (defArgs sL_mix) (defBody sL_mix) (defScope sL_mix) .none kV24 dc24 pm24 an24 cd24 ct24), sl24⟩) (c24 : PySem.W.codeIn K cd24 "_law_mix" = true) (k24 : PySem.W.keepIn K (.ref f24) = true)
    (a25 : PySem.W.nsIn K mainGlobals "_law_refusal" = some (some (.ref f25))) (l25 : K.lookup f25 = some ⟨oc25, od25, .func (PySem.W.fnOf "_law_refusal" "_law_refusal" (defArgs sL_refusal) (defBody sL_refusal) (defScope sL_refusal) .none kV25 dc25 pm25 an25 cd25 ct25), sl25⟩) (c25 : PySem.W.codeIn K cd25 "_law_refusal" = true) (k25 : PySem.W.keepIn K (.ref f25) = true)
    (a26 : PySem.W.nsIn K mainGlobals "_law_cost_due" = some (some (.ref f26))) (l26 : K.lookup f26 = some ⟨oc26, od26, .func (PySem.W.fnOf "_law_cost_due" "_law_cost_due" (defArgs sL_cost_due) (defBody sL_cost_due) (defScope sL_cost_due) .none kV26 dc26 pm26 an26 cd26 ct26), sl26⟩) (c26 : PySem.W.codeIn K cd26 "_law_cost_due" = true) (k26 : PySem.W.keepIn K (.ref f26) = true)
    (a27 : PySem.W.nsIn K mainGlobals "_law_row_due" = some (some (.ref f27))) (l27 : K.lookup f27 = some ⟨oc27, od27, .func (PySem.W.fnOf "_law_row_due" "_law_row_due" (defArgs sL_row_due) (defBody sL_row_due) (defScope sL_row_due) .none kV27 dc27 pm27 an27 cd27 ct27), sl27⟩) (c27 : PySem.W.codeIn K cd27 "_law_row_due" = true) (k27 : PySem.W.keepIn K (.ref f27) = true)
    (a28 : PySem.W.nsIn K mainGlobals "_law_spoilt" = some (some (.ref f28))) (l28 : K.lookup f28 = some ⟨oc28, od28, .func (PySem.W.fnOf "_law_spoilt" "_law_spoilt" (defArgs sL_spoilt) (defBody sL_spoilt) (defScope sL_spoilt) .none kV28 dc28 pm28 an28 cd28 ct28), sl28⟩) (c28 : PySem.W.codeIn K cd28 "_law_spoilt" = true) (k28 : PySem.W.keepIn K (.ref f28) = true)
    (a29 : PySem.W.nsIn K mainGlobals "_law_copy" = some (some (.ref f29))) (l29 : K.lookup f29 = some ⟨oc29, od29, .func (PySem.W.fnOf "_law_copy" "_law_copy" (defArgs sL_copy) (defBody sL_copy) (defScope sL_copy) .none kV29 dc29 pm29 an29 cd29 ct29), sl29⟩) (c29 : PySem.W.codeIn K cd29 "_law_copy" = true) (k29 : PySem.W.keepIn K (.ref f29) = true)
    (a30 : PySem.W.nsIn K mainGlobals "_law_alike" = some (some (.ref f30))) (l30 : K.lookup f30 = some ⟨oc30, od30, .func (PySem.W.fnOf "_law_alike" "_law_alike" (defArgs sL_alike) (defBody sL_alike) (defScope sL_alike) .none kV30 dc30 pm30 an30 cd30 ct30), sl30⟩) (c30 : PySem.W.codeIn K cd30 "_law_alike" = true) (k30 : PySem.W.keepIn K (.ref f30) = true)
    (a31 : PySem.W.nsIn K mainGlobals "law" = some (some (.ref f31))) (l31 : K.lookup f31 = some ⟨oc31, od31, .func (PySem.W.fnOf "law" "law" (defArgs slaw) (defBody slaw) (defScope slaw) .none kV31 dc31 pm31 an31 cd31 ct31), sl31⟩) (c31 : PySem.W.codeIn K cd31 "law" = true) (k31 : PySem.W.keepIn K (.ref f31) = true)
    (ga1 : PySem.W.nsIn K mainGlobals "NOUGHT" = some (some (.ref g1))) (gl1 : K.lookup g1 = some ⟨.type "tuple", gd1, .seq #[.int 0 gt1, .int 1 gu1] gn1, gs1⟩)
    (ga2 : PySem.W.nsIn K mainGlobals "ONE" = some (some (.ref g2))) (gl2 : K.lookup g2 = some ⟨.type "tuple", gd2, .seq #[.int 1 gt2, .int 1 gu2] gn2, gs2⟩)
    {cE cX cO1 cO2 cO3 cO4 cO5 cO6 cO7 : Addr}
    (en0 : PySem.W.nsIn K mainGlobals "ChanceError" = some (some (.ref cE)))
    (en1 : PySem.W.nsIn K mainGlobals "NoRule" = some (some (.ref cX)))
    (en2 : PySem.W.nsIn K mainGlobals "NoAnswer" = some (some (.ref cO1)))
    (en3 : PySem.W.nsIn K mainGlobals "NoHouse" = some (some (.ref cO2)))
    (en4 : PySem.W.nsIn K mainGlobals "NoName" = some (some (.ref cO3)))
    (en5 : PySem.W.nsIn K mainGlobals "NoNumber" = some (some (.ref cO4)))
    (en6 : PySem.W.nsIn K mainGlobals "NoRow" = some (some (.ref cO5)))
    (en7 : PySem.W.nsIn K mainGlobals "NoText" = some (some (.ref cO6)))
    (en8 : PySem.W.nsIn K mainGlobals "NoWord" = some (some (.ref cO7)))
    (xx : PySem.W.excIn K cX mroVE "ValueError.__new__" = true)
    (x1 : PySem.W.findIn K (.ref cX) "__getattribute__" = some (some (.builtin "BaseException.__getattribute__")))
    (x2 : PySem.W.findIn K (.ref cX) "__getattr__" = some none)
    (x3 : PySem.W.findIn K (.ref cX) "__class__" = some (some (.builtin "object.__class__")))
    (x4 : PySem.W.mroIn K cX (.type "object") = some true)
    (x5 : PySem.W.mroIn K cX (.type "BaseException") = some true)
    (x6 : PySem.W.typeIn K (.ref cE) = some (.type "type"))
    (x7 : PySem.W.mroIn K cE (.type "BaseException") = some true)
    (x8 : PySem.W.mroIn K cX (.ref cE) = some true)
    (x9 : PySem.W.kitOne K (.ref cX) (.ref cX) = some true)
    (xa : PySem.W.kitOne K (.ref cX) (.type "ValueError") = some true)
    (xb : PySem.W.kitAny K (.ref cX) [.ref cO1, .ref cO2, .ref cO3, .ref cO4, .ref cO5, .ref cO6, .ref cO7] = some false)
    (z1 : PySem.W.nsIn K mainGlobals "ValueError" = some none)
    (z2 : PySem.W.nsIn K mainGlobals "abs" = some none)
    (z3 : PySem.W.nsIn K mainGlobals "all" = some none)
    (z4 : PySem.W.nsIn K mainGlobals "any" = some none)
    (z5 : PySem.W.nsIn K mainGlobals "bool" = some none)
    (z6 : PySem.W.nsIn K mainGlobals "int" = some none)
    (z7 : PySem.W.nsIn K mainGlobals "isinstance" = some none)
    (z8 : PySem.W.nsIn K mainGlobals "len" = some none)
    (z9 : PySem.W.nsIn K mainGlobals "list" = some none)
    (z10 : PySem.W.nsIn K mainGlobals "min" = some none)
    (z11 : PySem.W.nsIn K mainGlobals "range" = some none)
    (z12 : PySem.W.nsIn K mainGlobals "sorted" = some none)
    (z13 : PySem.W.nsIn K mainGlobals "sum" = some none)
    (z14 : PySem.W.nsIn K mainGlobals "tuple" = some none)
    (z15 : PySem.W.nsIn K mainGlobals "zip" = some none)
    : ∃ fd : FuncData, (∀ (s : Shared) (v : Value), BindsTo s fd ⟨[v], []⟩ [("_law_script", v)]) ∧ ∀ base : Heap, K.In base → base.Ns mainGlobals mg → FnOk l.prog w K mg base CX0 10 fa fd ["_law_script"] (spLaw K) := by
  have e := hfa.symm.trans (PySem.W.mg_of X G a31)
  cases e
  have B : Blt mg := ⟨PySem.W.mg_none_of X G z1, PySem.W.mg_none_of X G z2, PySem.W.mg_none_of X G z3, PySem.W.mg_none_of X G z4, PySem.W.mg_none_of X G z5, PySem.W.mg_none_of X G z6, PySem.W.mg_none_of X G z7, PySem.W.mg_none_of X G z8, PySem.W.mg_none_of X G z9, PySem.W.mg_none_of X G z10, PySem.W.mg_none_of X G z11, PySem.W.mg_none_of X G z12, PySem.W.mg_none_of X G z13, PySem.W.mg_none_of X G z14, PySem.W.mg_none_of X G z15⟩
  have C_NOUGHT : GlobT K mg "NOUGHT" 0 1 := ⟨g1, PySem.W.mg_of X G ga1, ⟨_, _, _, gl1, rfl, rfl, by show 2 ≤ sizeLine; decide, .cons ⟨_, rfl⟩ (.cons ⟨_, rfl⟩ .nil)⟩⟩
  have C_ONE : GlobT K mg "ONE" 1 1 := ⟨g2, PySem.W.mg_of X G ga2, ⟨_, _, _, gl2, rfl, rfl, by show 2 ≤ sizeLine; decide, .cons ⟨_, rfl⟩ (.cons ⟨_, rfl⟩ .nil)⟩⟩
  have T__law_cell_at := txtD_mk (x := "_law_cell_at") (st := sL_cell_at) (ps := ["_law_script", "_law_k"]) X G a1 l1 c1 k1 fun _ _ _ _ _ _ us hl => match us, hl with | [_, _], _ => rfl
  have T_is_whole := txtD_mk (x := "is_whole") (st := sis_whole) (ps := ["thing"]) X G a2 l2 c2 k2 fun _ _ _ _ _ _ us hl => match us, hl with | [_], _ => rfl
  have T_common_divisor := txtD_mk (x := "common_divisor") (st := scommon_divisor) (ps := ["one", "other"]) X G a3 l3 c3 k3 fun _ _ _ _ _ _ us hl => match us, hl with | [_, _], _ => rfl
  have T_fraction := txtD_mk (x := "fraction") (st := sfraction) (ps := ["top", "bottom"]) X G a4 l4 c4 k4 fun _ _ _ _ _ _ us hl => match us, hl with | [_, _], _ => rfl
  have T_plus := txtD_mk (x := "plus") (st := splus) (ps := ["one", "other"]) X G a5 l5 c5 k5 fun _ _ _ _ _ _ us hl => match us, hl with | [_, _], _ => rfl
  have T_times := txtD_mk (x := "times") (st := stimes) (ps := ["one", "other"]) X G a6 l6 c6 k6 fun _ _ _ _ _ _ us hl => match us, hl with | [_, _], _ => rfl
  have T_less := txtD_mk (x := "less") (st := sless) (ps := ["one", "other"]) X G a7 l7 c7 k7 fun _ _ _ _ _ _ us hl => match us, hl with | [_, _], _ => rfl
  have T_total := txtD_mk (x := "total") (st := stotal) (ps := ["some"]) X G a8 l8 c8 k8 fun _ _ _ _ _ _ us hl => match us, hl with | [_], _ => rfl
  have T_comes_to_one := txtD_mk (x := "comes_to_one") (st := scomes_to_one) (ps := ["row"]) X G a9 l9 c9 k9 fun _ _ _ _ _ _ us hl => match us, hl with | [_], _ => rfl
  have T__law_lowest := txtD_mk (x := "_law_lowest") (st := sL_lowest) (ps := ["_law_top", "_law_bottom"]) X G a10 l10 c10 k10 fun _ _ _ _ _ _ us hl => match us, hl with | [_, _], _ => rfl
  have T__law_cost := txtD_mk (x := "_law_cost") (st := sL_cost) (ps := ["_law_cell"]) X G a11 l11 c11 k11 fun _ _ _ _ _ _ us hl => match us, hl with | [_], _ => rfl
  have T__law_row := txtD_mk (x := "_law_row") (st := sL_row) (ps := ["_law_cells", "_law_many", "_law_most"]) X G a12 l12 c12 k12 fun _ _ _ _ _ _ us hl => match us, hl with | [_, _, _], _ => rfl
  have T__law_house := txtD_mk (x := "_law_house") (st := sL_house) (ps := ["_law_script"]) X G a13 l13 c13 k13 fun _ _ _ _ _ _ us hl => match us, hl with | [_], _ => rfl
  have T_row_of := txtD_mk (x := "row_of") (st := srow_of) (ps := ["pairs", "many"]) X G a14 l14 c14 k14 fun _ _ _ _ _ _ us hl => match us, hl with | [_, _], _ => rfl
  have T_are_shares := txtD_mk (x := "are_shares") (st := sare_shares) (ps := ["doors", "shares"]) X G a15 l15 c15 k15 fun _ _ _ _ _ _ us hl => match us, hl with | [_, _], _ => rfl
  have T_is_mix := txtD_mk (x := "is_mix") (st := sis_mix) (ps := ["house", "mix"]) X G a16 l16 c16 k16 fun _ _ _ _ _ _ us hl => match us, hl with | [_, _], _ => rfl
  have T_refuse_no_mix := txtD_mk (x := "refuse_no_mix") (st := srefuse_no_mix) (ps := ["house", "mix"]) X G a17 l17 c17 k17 fun _ _ _ _ _ _ us hl => match us, hl with | [_, _], _ => rfl
  have T_mixed_row := txtD_mk (x := "mixed_row") (st := smixed_row) (ps := ["doors", "shares", "many"]) X G a18 l18 c18 k18 fun _ _ _ _ _ _ us hl => match us, hl with | [_, _, _], _ => rfl
  have T_mixed_cost := txtD_mk (x := "mixed_cost") (st := smixed_cost) (ps := ["doors", "shares"]) X G a19 l19 c19 k19 fun _ _ _ _ _ _ us hl => match us, hl with | [_, _], _ => rfl
  have T_chain_mixed := txtD_mk (x := "chain_mixed") (st := schain_mixed) (ps := ["house", "mix"]) X G a20 l20 c20 k20 fun _ _ _ _ _ _ us hl => match us, hl with | [_, _], _ => rfl
  have T_costs_mixed := txtD_mk (x := "costs_mixed") (st := scosts_mixed) (ps := ["house", "mix"]) X G a21 l21 c21 k21 fun _ _ _ _ _ _ us hl => match us, hl with | [_, _], _ => rfl
  have T__law_sum := txtD_mk (x := "_law_sum") (st := sL_sum) (ps := ["_law_products"]) X G a22 l22 c22 k22 fun _ _ _ _ _ _ us hl => match us, hl with | [_], _ => rfl
  have T__law_main := txtD_mk (x := "_law_main") (st := sL_main) (ps := ["_law_script", "_law_house_here", "_law_room"]) X G a23 l23 c23 k23 fun _ _ _ _ _ _ us hl => match us, hl with | [_, _, _], _ => rfl
  have T__law_mix := txtD_mk (x := "_law_mix") (st := sL_mix) (ps := ["_law_script", "_law_house_here"]) X G a24 l24 c24 k24 fun _ _ _ _ _ _ us hl => match us, hl with | [_, _], _ => rfl
  have T__law_refusal := txtD_mk (x := "_law_refusal") (st := sL_refusal) (ps := ["_law_house_here", "_law_mix_here", "_law_costs"]) X G a25 l25 c25 k25 fun _ _ _ _ _ _ us hl => match us, hl with | [_, _, _], _ => rfl
  have T__law_cost_due := txtD_mk (x := "_law_cost_due") (st := sL_cost_due) (ps := ["_law_doors", "_law_parts"]) X G a26 l26 c26 k26 fun _ _ _ _ _ _ us hl => match us, hl with | [_, _], _ => rfl
  have T__law_row_due := txtD_mk (x := "_law_row_due") (st := sL_row_due) (ps := ["_law_doors", "_law_parts", "_law_many"]) X G a27 l27 c27 k27 fun _ _ _ _ _ _ us hl => match us, hl with | [_, _, _], _ => rfl
  have T__law_spoilt := txtD_mk (x := "_law_spoilt") (st := sL_spoilt) (ps := ["_law_script", "_law_house_here", "_law_mix_here"]) X G a28 l28 c28 k28 fun _ _ _ _ _ _ us hl => match us, hl with | [_, _, _], _ => rfl
  have T__law_copy := txtD_mk (x := "_law_copy") (st := sL_copy) (ps := ["_law_house_here"]) X G a29 l29 c29 k29 fun _ _ _ _ _ _ us hl => match us, hl with | [_], _ => rfl
  have T__law_alike := txtD_mk (x := "_law_alike") (st := sL_alike) (ps := ["_law_found", "_law_due"]) X G a30 l30 c30 k30 fun _ _ _ _ _ _ us hl => match us, hl with | [_, _], _ => rfl
  have F := fun_mk (st := slaw) l31 c31 k31
  refine ⟨PySem.W.fnOf "law" "law" (defArgs slaw) (defBody slaw) (defScope slaw) .none kV31 dc31 pm31 an31 cd31 ct31, fun s v => .of_eq rfl, fun base _ _ => ?_⟩
  have R : Refuses K mg "NoRule" "NoAnswer" "NoHouse" "NoName" "NoNumber" "NoRow" "NoText" "NoWord" cE cX cO1 cO2 cO3 cO4 cO5 cO6 cO7 := ⟨PySem.W.mg_of X G en0, PySem.W.mg_of X G en1, PySem.W.mg_of X G en2, PySem.W.mg_of X G en3, PySem.W.mg_of X G en4, PySem.W.mg_of X G en5, PySem.W.mg_of X G en6, PySem.W.mg_of X G en7, PySem.W.mg_of X G en8, xx, ⟨x1, x2, x3, x4, x5⟩, ⟨x6, x7, x8⟩, x9, xa, xb⟩
  have Dl := (ok_lowest (P := l.prog) (w := w) (base := base) B T__law_lowest).mono (show 1 ≤ 2 by decide)
  have Dc := ok_cell (P := l.prog) (w := w) (base := base) B T__law_cell_at
  have Df := ok_fraction (P := l.prog) (w := w) (base := base) (ok_whole B T_is_whole) (ok_common B T_common_divisor) T_fraction
  have Dp := ok_plus Df T_plus
  have Dti := ok_times Df T_times
  have Dto := ok_total C_NOUGHT Dp T_total
  have De := ok_lessR (ok_less (P := l.prog) (w := w) (base := base) T_less)
  have Dr := ok_refuse R.own R.exc (ok_ismix B (ok_shares B C_NOUGHT C_ONE De Dto T_are_shares) T_is_mix) T_refuse_no_mix
  have Dro := ok_rowof B C_NOUGHT De Dp (ok_one C_ONE Dto T_comes_to_one) T_row_of
  have Dcm := ok_chainmixed B Dr (ok_mixrow B Dti Dro T_mixed_row) T_chain_mixed
  have Dom := ok_costsmixed B Dr (ok_mixcost B Dti Dto T_mixed_cost) T_costs_mixed
  have Dm := ok_main B Dc T__law_main
  have Ds := ok_sum Dl T__law_sum
  have A0 := ok_alike0 (P := l.prog) (w := w) (base := base) T__law_alike
  have A6 := ok_alike B (ok_alike B (ok_alike B (ok_alike B (ok_alike B (ok_alike B A0 T__law_alike) T__law_alike) T__law_alike) T__law_alike) T__law_alike) T__law_alike
  exact ok_law B (ok_house B Dc (ok_cost Dl T__law_cost) (ok_row B Dl T__law_row) T__law_house) (ok_mix B Dc Dl Dm T__law_mix) (ok_spoilt B Dc Dl Dm T__law_spoilt) (ok_copy B T__law_copy) A6 (ok_rowdue B Ds T__law_row_due) (ok_costdue B Ds T__law_cost_due) Dcm Dom (ok_refusal B R Dcm Dom T__law_refusal) F
theorem walk {l : PySem.W.OpenLaw} {q : Program} {loose : List Str} {XP : (Str → Option Value) → Heap → Prop} {YP : World → Heap → Prop} {d : DefRec} {K : Params → PySem.W.Frag} (hn : l.most = some 63) (hdf : d.params.defaults = [])
    (hY : ∀ (w : World) (h : Heap), YP w h → (K w.params).In h)
    (F : ∀ (w : World) (mg : Str → Option Value) (fa : Addr) (h : Heap), (K w.params).In h → h.Ns mainGlobals mg → mg d.name = some (.ref fa) →
      ∃ fd : FuncData, (∀ (s : Shared) (u : Value), BindsTo s fd ⟨[u], []⟩ [("_law_script", u)]) ∧ ∀ base : Heap, (K w.params).In base → base.Ns mainGlobals mg → FnOk l.prog w (K w.params) mg base CX0 10 fa fd ["_law_script"] (spLaw (K w.params))) :
    PySem.W.WalkO q loose XP YP l.row.toRowW d [] (fun f vs => PySem.call f vs) :=
  L2.walk_of (n := 63) (k := 10) (x := "_law_script") (CX := fun _ => CX0) (sp := fun w => spLaw (K w.params)) hn (by decide) hdf ⟨rfl, by decide, by decide⟩ hY F (fun _ _ a ns hl _ hS => ⟨a, ns, rfl, hS, hl, fun _ => rfl⟩) fun _ _ _ _ _ z => z
end Law
open PySem PySem.W PyProof.Rows
/-! names that the head need not lay -/
theorem PySem.W.Fast.tw7933868966836526421 : True := True.intro
theorem PySem.W.Fast.tw13826697341961105999 : True := True.intro
theorem PySem.W.Fast.tw4613703401938609551 : True := True.intro
theorem PySem.W.Fast.tw5190254998792787584 : True := True.intro
theorem PySem.W.Fast.tw1317251343461929110 : True := True.intro
theorem PySem.W.Fast.tw881389591248918282 : True := True.intro
theorem PySem.W.Fast.tw7053095916486439867 : True := True.intro
theorem PySem.W.Fast.tw1537250119702639889 : True := True.intro
set_option maxRecDepth 100000 in
set_option maxHeartbeats 0 in
theorem PySem.Challenge.cw_chancehouse_k18_a_house_under_a_mix_holds : PySem.Challenge.rw_chancehouse_k18_a_house_under_a_mix.Holds := by
  w_on; o_law; k_head; (case hw => w_witness2)
  k_fill
  refine Law.walk (l := PySem.Challenge.rw_chancehouse_k18_a_house_under_a_mix) rfl rfl (fun w h Y => PySem.W.kIn_of Y) ?F
  case F =>
    intro w mg fa h KX G hmg
    refine' Law.all_mk KX G hmg ?a1 ?l1 ?c1 ?k1 ?a2 ?l2 ?c2 ?k2 ?a3 ?l3 ?c3 ?k3 ?a4 ?l4 ?c4 ?k4 ?a5 ?l5 ?c5 ?k5 ?a6 ?l6 ?c6 ?k6 ?a7 ?l7 ?c7 ?k7 ?a8 ?l8 ?c8 ?k8 ?a9 ?l9 ?c9 ?k9 ?a10 ?l10 ?c10 ?k10 ?a11 ?l11 ?c11 ?k11 ?a12 ?l12 ?c12 ?k12 ?a13 ?l13 ?c13 ?k13 ?a14 ?l14 ?c14 ?k14 ?a15 ?l15 ?c15 ?k15 ?a16 ?l16 ?c16 ?k16 ?a17 ?l17 ?c17 ?k17 ?a18 ?l18 ?c18 ?k18 ?a19 ?l19 ?c19 ?k19 ?a20 ?l20 ?c20 ?k20 ?a21 ?l21 ?c21 ?k21 ?a22 ?l22 ?c22 ?k22 ?a23 ?l23 ?c23 ?k23 ?a24 ?l24 ?c24 ?k24 ?a25 ?l25 ?c25 ?k25 ?a26 ?l26 ?c26 ?k26 ?a27 ?l27 ?c27 ?k27 ?a28 ?l28 ?c28 ?k28 ?a29 ?l29 ?c29 ?k29 ?a30 ?l30 ?c30 ?k30 ?a31 ?l31 ?c31 ?k31 ?ga1 ?gl1 ?ga2 ?gl2 ?en0 ?en1 ?en2 ?en3 ?en4 ?en5 ?en6 ?en7 ?en8 ?xx ?x1 ?x2 ?x3 ?x4 ?x5 ?x6 ?x7 ?x8 ?x9 ?xa ?xb ?z1 ?z2 ?z3 ?z4 ?z5 ?z6 ?z7 ?z8 ?z9 ?z10 ?z11 ?z12 ?z13 ?z14 ?z15
    (case a1 => k_is); (case l1 => k_is); (case c1 => k_is); (case k1 => k_is); (case a2 => k_is); (case l2 => k_is); (case c2 => k_is); (case k2 => k_is)
    (case a3 => k_is); (case l3 => k_is); (case c3 => k_is); (case k3 => k_is); (case a4 => k_is); (case l4 => k_is); (case c4 => k_is); (case k4 => k_is)
    (case a5 => k_is); (case l5 => k_is); (case c5 => k_is); (case k5 => k_is); (case a6 => k_is); (case l6 => k_is); (case c6 => k_is); (case k6 => k_is)
    (case a7 => k_is); (case l7 => k_is); (case c7 => k_is); (case k7 => k_is); (case a8 => k_is); (case l8 => k_is); (case c8 => k_is); (case k8 => k_is)
    (case a9 => k_is); (case l9 => k_is); (case c9 => k_is); (case k9 => k_is); (case a10 => k_is); (case l10 => k_is); (case c10 => k_is); (case k10 => k_is)
    (case a11 => k_is); (case l11 => k_is); (case c11 => k_is); (case k11 => k_is); (case a12 => k_is); (case l12 => k_is); (case c12 => k_is); (case k12 => k_is)
    (case a13 => k_is); (case l13 => k_is); (case c13 => k_is); (case k13 => k_is); (case a14 => k_is); (case l14 => k_is); (case c14 => k_is); (case k14 => k_is)
    (case a15 => k_is); (case l15 => k_is); (case c15 => k_is); (case k15 => k_is); (case a16 => k_is); (case l16 => k_is); (case c16 => k_is); (case k16 => k_is)
    (case a17 => k_is); (case l17 => k_is); (case c17 => k_is); (case k17 => k_is); (case a18 => k_is); (case l18 => k_is); (case c18 => k_is); (case k18 => k_is)
    (case a19 => k_is); (case l19 => k_is); (case c19 => k_is); (case k19 => k_is); (case a20 => k_is); (case l20 => k_is); (case c20 => k_is); (case k20 => k_is)
    (case a21 => k_is); (case l21 => k_is); (case c21 => k_is); (case k21 => k_is); (case a22 => k_is); (case l22 => k_is); (case c22 => k_is); (case k22 => k_is)
    (case a23 => k_is); (case l23 => k_is); (case c23 => k_is); (case k23 => k_is); (case a24 => k_is); (case l24 => k_is); (case c24 => k_is); (case k24 => k_is)
    (case a25 => k_is); (case l25 => k_is); (case c25 => k_is); (case k25 => k_is); (case a26 => k_is); (case l26 => k_is); (case c26 => k_is); (case k26 => k_is)
    (case a27 => k_is); (case l27 => k_is); (case c27 => k_is); (case k27 => k_is); (case a28 => k_is); (case l28 => k_is); (case c28 => k_is); (case k28 => k_is)
    (case a29 => k_is); (case l29 => k_is); (case c29 => k_is); (case k29 => k_is); (case a30 => k_is); (case l30 => k_is); (case c30 => k_is); (case k30 => k_is)
    (case a31 => k_is); (case l31 => k_is); (case c31 => k_is); (case k31 => k_is); (case ga1 => k_is); (case gl1 => k_is); (case ga2 => k_is); (case gl2 => k_is)
    (case en0 => first | k_is | k_exc | kit_is); (case en1 => first | k_is | k_exc | kit_is); (case en2 => first | k_is | k_exc | kit_is); (case en3 => first | k_is | k_exc | kit_is); (case en4 => first | k_is | k_exc | kit_is); (case en5 => first | k_is | k_exc | kit_is); (case en6 => first | k_is | k_exc | kit_is); (case en7 => first | k_is | k_exc | kit_is)
    (case en8 => first | k_is | k_exc | kit_is); (case xx => first | k_is | k_exc | kit_is); (case x1 => first | k_is | k_exc | kit_is); (case x2 => first | k_is | k_exc | kit_is); (case x3 => first | k_is | k_exc | kit_is); (case x4 => first | k_is | k_exc | kit_is); (case x5 => first | k_is | k_exc | kit_is); (case x6 => first | k_is | k_exc | kit_is)
    (case x7 => first | k_is | k_exc | kit_is); (case x8 => first | k_is | k_exc | kit_is); (case x9 => first | k_is | k_exc | kit_is); (case xa => first | k_is | k_exc | kit_is); (case xb => first | k_is | k_exc | kit_is); (case z1 => k_is); (case z2 => k_is); (case z3 => k_is)
    (case z4 => k_is); (case z5 => k_is); (case z6 => k_is); (case z7 => k_is); (case z8 => k_is); (case z9 => k_is); (case z10 => k_is); (case z11 => k_is)
    (case z12 => k_is); (case z13 => k_is); (case z14 => k_is); (case z15 => k_is)
#print axioms PySem.Challenge.cw_chancehouse_k18_a_house_under_a_mix_holds
